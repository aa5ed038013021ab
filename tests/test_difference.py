"""Point 3: shared lines, patches and their texts."""

import unittest
from itertools import product

from landstack.difference import (apply_patch, common_rows, counts, matches, patch_between, patch_text, read_patch,
                                  turned)
from landstack.errors import PatchError

SHORT = [tuple(signs) for many in range(5) for signs in product('ab', repeat=many)]
PAIRS = [(one, other) for one in SHORT for other in SHORT]


def shared(one, other):
    """How many lines two texts share in order, told anew."""
    if one == () or other == ():
        return 0
    if one[0] == other[0]:
        return 1 + shared(one[1:], other[1:])
    return max(shared(one[1:], other), shared(one, other[1:]))


def told_matches(one, other):
    """The pairs, just as point 3 words them."""
    pairs, here, there = [], 0, 0
    while here < len(one) and there < len(other):
        if one[here] == other[there]:
            pairs.append((here, there))
            here, there = here + 1, there + 1
        elif shared(one[here + 1:], other[there:]) == shared(one[here:], other[there:]):
            here += 1
        else:
            there += 1
    return tuple(pairs)


class SharedLinesTest(unittest.TestCase):
    def test_the_table(self):
        self.assertEqual(common_rows(('a', 'b'), ('b', 'a', 'b')), [[2, 2, 1, 0], [1, 1, 1, 0], [0, 0, 0, 0]])
        self.assertEqual(common_rows((), ()), [[0]])
        self.assertEqual(common_rows(('a',), ()), [[0], [0]])
        self.assertEqual(common_rows((), ('a', 'b')), [[0, 0, 0]])

    def test_the_table_of_short_texts(self):
        for one, other in PAIRS:
            self.assertEqual(common_rows(one, other),
                             [[shared(one[here:], other[there:]) for there in range(len(other) + 1)]
                              for here in range(len(one) + 1)])

    def test_some_lines_are_shared(self):
        self.assertEqual(matches(('a', 'b', 'c', 'd'), ('a', 'x', 'c', 'e', 'd')), ((0, 0), (2, 2), (3, 4)))
        self.assertEqual(matches(('a', 'b'), ('b', 'a', 'b')), ((0, 1), (1, 2)))

    def test_a_line_of_the_first_is_left_out_where_that_loses_none(self):
        self.assertEqual(matches(('a', 'b'), ('b', 'a')), ((1, 0),))
        self.assertEqual(matches(('b', 'a'), ('a', 'b')), ((1, 0),))
        self.assertEqual(matches(('x', 'a', 'y', 'b'), ('y', 'b', 'x', 'a')), ((2, 0), (3, 1)))

    def test_equal_lines_are_taken_where_they_meet(self):
        self.assertEqual(matches(('a', 'a', 'b'), ('a', 'b', 'a')), ((0, 0), (2, 1)))
        self.assertEqual(matches(('a',), ('a', 'a')), ((0, 0),))
        self.assertEqual(matches(('a', 'a'), ('a',)), ((0, 0),))
        self.assertEqual(matches(('b', 'a', 'a'), ('a',)), ((1, 0),))

    def test_repeated_lines(self):
        self.assertEqual(matches(('', 'a', '', 'b', ''), ('', 'b', '', 'a', '')), ((0, 0), (3, 1), (4, 2)))

    def test_no_lines_are_shared(self):
        self.assertEqual(matches(('a', 'b'), ('c',)), ())
        self.assertEqual(matches((), ('c',)), ())
        self.assertEqual(matches(('a',), ()), ())
        self.assertEqual(matches((), ()), ())

    def test_equal_texts(self):
        self.assertEqual(matches(('a', 'b', 'a'), ('a', 'b', 'a')), ((0, 0), (1, 1), (2, 2)))

    def test_short_texts_as_they_are_told(self):
        for one, other in PAIRS:
            self.assertEqual(matches(one, other), told_matches(one, other))
        for one, other in product(product('abc', repeat=3), repeat=2):
            self.assertEqual(matches(one, other), told_matches(one, other))

    def test_the_longest_texts(self):
        one = tuple(str(place) for place in range(500))
        other = one[1:] + one[:1]
        self.assertEqual(matches(one, other), tuple((place, place - 1) for place in range(1, 500)))


class PatchesTest(unittest.TestCase):
    def test_a_patch(self):
        self.assertEqual(patch_between(('a', 'b', 'c', 'd'), ('a', 'x', 'y', 'd', 'e')),
                         (('keep', 1), ('drop', ('b', 'c')), ('add', ('x', 'y')), ('keep', 1), ('add', ('e',))))

    def test_patches_of_empty_and_equal_texts(self):
        self.assertEqual(patch_between((), ()), ())
        self.assertEqual(patch_between(('a', 'b'), ('a', 'b')), (('keep', 2),))
        self.assertEqual(patch_between((), ('a', 'b')), (('add', ('a', 'b')),))
        self.assertEqual(patch_between(('a', 'b'), ()), (('drop', ('a', 'b')),))
        self.assertEqual(patch_between(('a',), ('b',)), (('drop', ('a',)), ('add', ('b',))))

    def test_patches_begin_and_end_with_what_is_not_kept(self):
        self.assertEqual(patch_between(('a', 'b'), ('b', 'c')), (('drop', ('a',)), ('keep', 1), ('add', ('c',))))

    def test_patches_lead_there_and_back(self):
        for one, other in PAIRS:
            patch = patch_between(one, other)
            self.assertEqual(apply_patch(one, patch), other)
            self.assertEqual(apply_patch(other, turned(patch)), one)
            self.assertEqual(turned(turned(patch)), patch)
            self.assertEqual(read_patch(patch_text(patch)), patch)
            self.assertEqual(read_patch(patch_text(turned(patch))), turned(patch))

    def test_rows_of_a_patch_stand_as_they_have_to(self):
        for one, other in PAIRS:
            words = [word for word, _ in patch_between(one, other)]
            for word, following in zip(words, words[1:]):
                self.assertNotEqual(word, following)
                self.assertNotEqual((word, following), ('add', 'drop'))

    def test_a_turned_patch(self):
        self.assertEqual(turned((('keep', 1), ('drop', ('b',)), ('add', ('x', 'y')), ('keep', 2), ('add', ('e',)))),
                         (('keep', 1), ('drop', ('x', 'y')), ('add', ('b',)), ('keep', 2), ('drop', ('e',))))
        self.assertEqual(turned((('drop', ('a',)), ('keep', 3), ('drop', ('b',)))),
                         (('add', ('a',)), ('keep', 3), ('add', ('b',))))
        self.assertEqual(turned((('add', ('a',)), ('keep', 3), ('add', ('b',)))),
                         (('drop', ('a',)), ('keep', 3), ('drop', ('b',))))
        self.assertEqual(turned(()), ())

    def test_a_patch_fits_no_other_text(self):
        patch = patch_between(('a', 'b', 'c'), ('a', 'c', 'd'))
        for lines in ((), ('a',), ('a', 'b'), ('a', 'x', 'c'), ('a', 'b', 'c', 'd'), ('b', 'a', 'c'), ('a', 'c', 'b')):
            with self.subTest(lines):
                self.assertRaises(PatchError, apply_patch, lines, patch)

    def test_a_patch_keeps_or_drops_too_much(self):
        self.assertRaises(PatchError, apply_patch, ('a',), (('keep', 2),))
        self.assertRaises(PatchError, apply_patch, ('a',), (('drop', ('a', 'b')),))
        self.assertRaises(PatchError, apply_patch, (), (('keep', 1),))

    def test_a_patch_ends_too_early(self):
        self.assertRaises(PatchError, apply_patch, ('a', 'b'), (('keep', 1),))
        self.assertRaises(PatchError, apply_patch, ('a',), ())
        self.assertRaises(PatchError, apply_patch, ('a',), (('add', ('b',)),))
        self.assertEqual(apply_patch((), ()), ())
        self.assertEqual(apply_patch(('a', 'b'), (('keep', 2),)), ('a', 'b'))

    def test_lines_that_are_kept_are_not_looked_at(self):
        self.assertEqual(apply_patch(('x', 'b'), (('keep', 1), ('drop', ('b',)), ('add', ('c',)))), ('x', 'c'))

    def test_counts(self):
        self.assertEqual(counts(patch_between(('a', 'b', 'c'), ('a', 'x', 'y', 'c', 'z'))), (3, 1))
        self.assertEqual(counts((('drop', ('a', 'b')), ('keep', 9), ('drop', ('c',)))), (0, 3))
        self.assertEqual(counts((('add', ('a', 'b')), ('keep', 9), ('add', ('c',)))), (3, 0))
        self.assertEqual(counts((('keep', 5),)), (0, 0))
        self.assertEqual(counts(()), (0, 0))


class PatchTextsTest(unittest.TestCase):
    def test_a_text(self):
        patch = (('keep', 12), ('drop', ('b', '')), ('add', ('= 3', '- x')), ('keep', 1))
        lines = ('= 12', '- b', '- ', '+ = 3', '+ - x', '= 1')
        self.assertEqual(patch_text(patch), lines)
        self.assertEqual(read_patch(lines), patch)

    def test_no_lines(self):
        self.assertEqual(patch_text(()), ())
        self.assertEqual(read_patch(()), ())

    def test_lines_that_are_none_of_a_patch(self):
        for line in ('', '=', '-', '+', '=3', '-a', '+a', ' = 3', 'a', '* a', '=  ', '--a', '+-a'):
            with self.subTest(line):
                self.assertRaises(PatchError, read_patch, (line,))
                self.assertRaises(PatchError, read_patch, ('- a', line))

    def test_numbers(self):
        self.assertEqual(read_patch(('= 1',)), (('keep', 1),))
        self.assertEqual(read_patch(('= 10',)), (('keep', 10),))
        self.assertEqual(read_patch(('= 999999',)), (('keep', 999999),))
        for text in ('', '0', '01', '00', '-1', '+1', '1 ', ' 1', '1000000', '1a', '1_0', '\u0661', '\u00b2', '1\n'):
            with self.subTest(text):
                self.assertRaises(PatchError, read_patch, ('= ' + text,))

    def test_patches_told_in_another_way(self):
        for lines in (('= 1', '= 2'), ('+ a', '- b'), ('- a', '+ b', '- c'), ('= 1', '+ a', '- b', '= 1')):
            with self.subTest(lines):
                self.assertRaises(PatchError, read_patch, lines)

    def test_lines_of_a_class_stand_together(self):
        self.assertEqual(read_patch(('- a', '- b', '+ c', '+ d', '= 1', '- e')),
                         (('drop', ('a', 'b')), ('add', ('c', 'd')), ('keep', 1), ('drop', ('e',))))
