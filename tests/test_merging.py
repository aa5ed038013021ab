"""Point 4: merges of texts and of tables of files."""

import unittest
from itertools import product

from landstack.merging import MIDDLE, OURS, THEIRS, Merged, clashes, merge_files, merge_lines, stable_places

SHORT = [tuple(signs) for many in range(4) for signs in product('ab', repeat=many)]


class MergedTest(unittest.TestCase):
    def test_marks(self):
        self.assertEqual((OURS, MIDDLE, THEIRS), ('<<<<<<<', '=======', '>>>>>>>'))

    def test_a_merge_is_clean_without_conflicts(self):
        clean, other = Merged(('a',), ()), Merged(('a',), (0,))
        self.assertTrue(clean.is_clean())
        self.assertFalse(other.is_clean())
        self.assertEqual((clean.value, clean.conflicts), (('a',), ()))
        self.assertEqual(other.conflicts, (0,))


class LinesTest(unittest.TestCase):
    def merge(self, base, one, other):
        merged = merge_lines(tuple(base), tuple(one), tuple(other))
        return merged.value, merged.conflicts

    def test_stable_places(self):
        self.assertEqual(stable_places(tuple('abcd'), tuple('xabd'), tuple('acd')), [(0, 1, 0), (3, 3, 2), (4, 4, 3)])
        self.assertEqual(stable_places((), (), ()), [(0, 0, 0)])
        self.assertEqual(stable_places(('a',), (), ('b', 'c')), [(1, 0, 2)])

    def test_what_one_side_changed_is_taken(self):
        self.assertEqual(self.merge('abc', 'axc', 'abc'), (tuple('axc'), ()))
        self.assertEqual(self.merge('abc', 'abc', 'axyc'), (tuple('axyc'), ()))
        self.assertEqual(self.merge('abcde', 'xbcde', 'abcd'), (tuple('xbcd'), ()))
        self.assertEqual(self.merge('abc', 'zabc', 'abcy'), (tuple('zabcy'), ()))
        self.assertEqual(self.merge('abcde', 'ade', 'abcdxe'), (tuple('adxe'), ()))

    def test_what_both_did_alike_stands_once(self):
        self.assertEqual(self.merge('abc', 'axc', 'axc'), (tuple('axc'), ()))
        self.assertEqual(self.merge('abcd', 'axcy', 'axcd'), (tuple('axcy'), ()))
        self.assertEqual(self.merge('abc', 'ac', 'ac'), (tuple('ac'), ()))
        self.assertEqual(self.merge('', 'ab', 'ab'), (tuple('ab'), ()))

    def test_a_conflict(self):
        self.assertEqual(self.merge('abc', 'axc', 'ayzc'), (('a', OURS, 'x', MIDDLE, 'y', 'z', THEIRS, 'c'), (1,)))
        self.assertEqual(self.merge('abc', 'ac', 'ayc'), (('a', OURS, MIDDLE, 'y', THEIRS, 'c'), (1,)))
        self.assertEqual(self.merge('', 'a', 'b'), ((OURS, 'a', MIDDLE, 'b', THEIRS), (0,)))

    def test_lines_put_at_one_place_conflict(self):
        self.assertEqual(self.merge('ab', 'axb', 'ayb'), (('a', OURS, 'x', MIDDLE, 'y', THEIRS, 'b'), (1,)))

    def test_several_conflicts_are_told_by_their_lines(self):
        value, conflicts = self.merge('abcde', 'xbcdy', 'zbcdvw')
        self.assertEqual(value, (OURS, 'x', MIDDLE, 'z', THEIRS, 'b', 'c', 'd', OURS, 'y', MIDDLE, 'v', 'w', THEIRS))
        self.assertEqual(conflicts, (0, 8))
        self.assertEqual([value[place] for place in conflicts], [OURS, OURS])

    def test_changes_side_by_side_conflict(self):
        self.assertEqual(self.merge('ab', 'xb', 'ay'), ((OURS, 'x', 'b', MIDDLE, 'a', 'y', THEIRS), (0,)))

    def test_marks_that_stand_in_the_texts_are_no_conflicts(self):
        self.assertEqual(self.merge(('a',), ('a', OURS), ('a',)), (('a', OURS), ()))

    def test_a_merge_with_the_base_or_of_equal_sides(self):
        for base, one in product(SHORT, repeat=2):
            self.assertEqual(self.merge(base, one, base), (one, ()))
            self.assertEqual(self.merge(base, base, one), (one, ()))
            self.assertEqual(self.merge(base, one, one), (one, ()))

    def test_exchanged_sides(self):
        for base, one, other in product(SHORT, repeat=3):
            lines, conflicts = self.merge(base, one, other)
            turned, turned_conflicts = self.merge(base, other, one)
            self.assertEqual(len(conflicts), len(turned_conflicts))
            if conflicts == ():
                self.assertEqual(lines, turned)
            self.assertEqual(sorted(lines), sorted(turned))


class FilesTest(unittest.TestCase):
    def check(self, base, one, other, value, conflicts=()):
        merged = merge_files(base, one, other)
        self.assertEqual((merged.value, merged.conflicts), (value, conflicts))
        turned = merge_files(base, other, one)
        self.assertEqual(turned.conflicts, conflicts)
        self.assertEqual(sorted(turned.value), sorted(value))

    def test_only_one_side_changed(self):
        self.check({'a': ('1',)}, {'a': ('2',)}, {'a': ('1',)}, {'a': ('2',)})
        self.check({}, {'a': ('2',)}, {}, {'a': ('2',)})
        self.check({'a': ('1',), 'b': ('1',)}, {'b': ('1',)}, {'a': ('1',), 'b': ('1',)}, {'b': ('1',)})
        self.check({'a': ()}, {}, {'a': ()}, {})

    def test_each_side_changed_another_path(self):
        self.check({'a': ('1',), 'b': ('1',), 'c': ('1',)}, {'a': ('2',), 'b': ('1',), 'd': ()}, {'a': ('1',), 'c': ('1',)},
                   {'a': ('2',), 'd': ()})

    def test_both_did_alike(self):
        self.check({'a': ('1',)}, {'a': ('2',)}, {'a': ('2',)}, {'a': ('2',)})
        self.check({}, {'a': ('2',)}, {'a': ('2',)}, {'a': ('2',)})
        self.check({'a': ('1',)}, {}, {}, {})

    def test_both_changed_a_text(self):
        self.check({'a': tuple('bcd')}, {'a': tuple('xbcd')}, {'a': tuple('bcdy')}, {'a': tuple('xbcdy')})

    def test_both_changed_a_text_at_one_place(self):
        self.check({'a': tuple('bcd'), 'k': ()}, {'a': tuple('bxd'), 'k': ()}, {'a': tuple('byd'), 'k': ()},
                   {'a': ('b', OURS, 'x', MIDDLE, 'y', THEIRS, 'd'), 'k': ()}, ('a',))

    def test_one_side_dropped_what_the_other_changed(self):
        self.check({'a': ('1',)}, {}, {'a': ('2',)}, {'a': ('2',)}, ('a',))
        self.check({'a': ('1',)}, {}, {'a': ()}, {'a': ()}, ('a',))

    def test_both_added_in_different_ways(self):
        merged = merge_files({}, {'a': ('1',)}, {'a': ('2',)})
        self.assertEqual((merged.value, merged.conflicts), ({'a': ('1',)}, ('a',)))
        merged = merge_files({}, {'a': ()}, {'a': ('2',)})
        self.assertEqual((merged.value, merged.conflicts), ({'a': ()}, ('a',)))

    def test_conflicts_stand_in_ascending_order(self):
        base = {path: ('1',) for path in ('z', 'b', 'a/c', 'a-c')}
        one = {path: ('2',) for path in base}
        other = {path: ('3',) for path in base}
        self.assertEqual(merge_files(base, one, other).conflicts, ('a-c', 'a/c', 'b', 'z'))

    def test_a_text_against_a_folder_of_the_same_path(self):
        self.check({}, {'a': ('1',)}, {'a/b': ('2',), 'a/c/d': ('3',)}, {'a': ('1',)}, ('a/b', 'a/c/d'))
        self.check({'a': ('1',)}, {'a': ('2',)}, {'a/b': ('1',)}, {'a': ('2',)}, ('a', 'a/b'))
        self.check({'a/b': ('1',)}, {'a': ('1',)}, {'a/b': ('2',)}, {'a': ('1',)}, ('a/b',))
        self.check({'a/b': ('1',)}, {'a': ('1',)}, {'a/b': ('1',), 'a/c': ('2',)}, {'a': ('1',)}, ('a/c',))

    def test_a_text_becomes_a_folder(self):
        self.check({'a': ('1',)}, {'a/b': ('1',)}, {'a': ('1',), 'c': ()}, {'a/b': ('1',), 'c': ()})
        self.check({'a': ('1',)}, {'a/b': ('1',)}, {}, {'a/b': ('1',)})

    def test_tables_stay_as_they_were(self):
        base, one, other = {'a': ('1',)}, {'a': ('1',), 'b': ()}, {'b/c': ()}
        merge_files(base, one, other)
        self.assertEqual((base, one, other), ({'a': ('1',)}, {'a': ('1',), 'b': ()}, {'b/c': ()}))

    def test_a_merge_with_the_base_or_of_equal_sides(self):
        tables = [{}, {'a': ('1',)}, {'a': ('2',)}, {'a/b': ('1',)}, {'b': (), 'a/c': ('2',)}]
        for base, one in product(tables, repeat=2):
            self.check(base, one, base, one)
            self.check(base, one, one, one)

    def test_exchanged_sides(self):
        tables = [{}, {'a': ('1',)}, {'a': ('2', '1')}, {'a/b': ('1',)}, {'a/b': ('2',), 'a/c': ()}, {'a/b/c': ('1',)}]
        for base, one, other in product(tables, repeat=3):
            merged, turned = merge_files(base, one, other), merge_files(base, other, one)
            self.assertEqual(merged.conflicts, turned.conflicts)
            if merged.is_clean():
                self.assertEqual(merged.value, turned.value)


class ClashesTest(unittest.TestCase):
    def test_paths_within_another_ones_place(self):
        self.assertEqual(clashes({'b/c/d': (), 'b': (), 'a': (), 'b/a': (), 'bb/c': (), 'b-': ()}), ('b/a', 'b/c/d'))
        self.assertEqual(clashes({'a/b/c': (), 'a/b': (), 'c/b': ()}), ('a/b/c',))

    def test_no_clashes(self):
        self.assertEqual(clashes({}), ())
        self.assertEqual(clashes({'a': (), 'ab/c': (), 'b/a': ()}), ())
