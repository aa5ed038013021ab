"""Point 26: which changes clash, and which ones could land together."""

import unittest
from itertools import combinations

from landstack.ahead import clash, clashes_between, greedy_set, largest_set, merged_all
from landstack.errors import ReviewError

BASE = {'a': ('1',), 'b': ('1',), 'c': ('1',)}


def with_(**files):
    """The base with other texts; a path with None is dropped."""
    changed = {**BASE, **{path: lines and (lines,) for path, lines in files.items()}}
    return {path: lines for path, lines in changed.items() if lines is not None}


A2, A3, B2, B3, C2, AB = with_(a='2'), with_(a='3'), with_(b='2'), with_(b='3'), with_(c='2'), with_(a='4', b='4')


def told_largest(base, changes):
    """The largest set, told by trying all, the largest first and the least first."""
    places = range(len(changes))
    for many in range(len(changes), -1, -1):
        for chosen in combinations(places, many):
            if merged_all(base, [changes[place] for place in chosen]) is not None:
                return chosen


class MergedAllTest(unittest.TestCase):
    def test_changes_one_after_another(self):
        self.assertEqual(merged_all(BASE, [A2, B3, C2]), {'a': ('2',), 'b': ('3',), 'c': ('2',)})
        self.assertEqual(merged_all(BASE, (with_(a=None), with_(d='9'))), {'b': ('1',), 'c': ('1',), 'd': ('9',)})

    def test_none_stands_for_a_clash(self):
        self.assertIsNone(merged_all(BASE, [A2, B2, A3]))
        self.assertIsNone(merged_all(BASE, [with_(d='1'), {**BASE, 'd/e': ('1',)}]))

    def test_no_changes(self):
        self.assertEqual(merged_all(BASE, []), BASE)
        self.assertEqual(merged_all({}, []), {})
        self.assertEqual(merged_all(BASE, [BASE, BASE]), BASE)

    def test_changes_that_are_alike(self):
        self.assertEqual(merged_all(BASE, [A2, A2, B2]), {'a': ('2',), 'b': ('2',), 'c': ('1',)})

    def test_tables_stay_as_they_were(self):
        base, changes = dict(BASE), [dict(A2), dict(B2)]
        merged_all(base, changes)['z'] = ()
        merged_all(base, [])['z'] = ()
        self.assertEqual((base, changes), (BASE, [A2, B2]))


class ClashTest(unittest.TestCase):
    def test_clashes(self):
        self.assertTrue(clash(BASE, A2, A3))
        self.assertFalse(clash(BASE, A2, B2))
        self.assertFalse(clash(BASE, A2, A2))
        self.assertTrue(clash(BASE, with_(a=None), A2))
        self.assertTrue(clash({}, {'a': ()}, {'a/b': ()}))

    def test_pairs_that_clash(self):
        self.assertEqual(clashes_between(BASE, [A2, B2, AB, C2, A3]), ((0, 2), (0, 4), (1, 2), (2, 4)))
        self.assertEqual(clashes_between(BASE, [A2]), ())
        self.assertEqual(clashes_between(BASE, []), ())


class SetsTest(unittest.TestCase):
    def test_the_largest_set(self):
        self.assertEqual(largest_set(BASE, [AB, A2, B2, C2]), (1, 2, 3))
        self.assertEqual(largest_set(BASE, [A2, B2, C2]), (0, 1, 2))
        self.assertEqual(largest_set(BASE, []), ())
        self.assertEqual(largest_set(BASE, [A2]), (0,))

    def test_the_least_set_of_several(self):
        self.assertEqual(largest_set(BASE, [A2, A3]), (0,))
        self.assertEqual(largest_set(BASE, [A2, B2, A3, B3]), (0, 1))
        self.assertEqual(largest_set(BASE, [AB, A2, C2]), (0, 2))

    def test_all_sets_of_a_few_changes(self):
        few = [A2, A3, B2, B3, AB, C2]
        for many in range(4):
            for rest in combinations(few, many):
                changes = [*rest, AB, *few[:2]]
                self.assertEqual(largest_set(BASE, changes), told_largest(BASE, changes))

    def test_twelve_and_thirteen_changes(self):
        base = {f'p{place}': ('1',) for place in range(13)}
        changes = [{**base, f'p{place}': ('2',)} for place in range(13)]
        self.assertEqual(largest_set(base, changes[:12]), tuple(range(12)))
        self.assertRaises(ReviewError, largest_set, base, changes)
        self.assertEqual(greedy_set(base, changes), tuple(range(13)))
        apart = [{'p0': (str(place),)} for place in range(2, 14)]
        self.assertEqual(largest_set({'p0': ('1',)}, apart), (0,))

    def test_the_greedy_set(self):
        self.assertEqual(greedy_set(BASE, [AB, A2, B2, C2]), (0, 3))
        self.assertEqual(greedy_set(BASE, [A2, A3, B2, AB, B3, C2]), (0, 2, 5))
        self.assertEqual(greedy_set(BASE, []), ())

    def test_a_change_that_is_left_out_leaves_nothing(self):
        both = with_(a='3', c='3')
        self.assertEqual(greedy_set(BASE, [A2, both, C2]), (0, 2))
