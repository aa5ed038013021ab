"""Point 11: conflicts in a merge's lines, and how they were settled before."""

import unittest

from landstack.errors import PatchError
from landstack.merging import MIDDLE, OURS, THEIRS, merge_lines
from landstack.settling import Settler, conflict_parts

MARKS = {'<': OURS, '=': MIDDLE, '>': THEIRS}


def rows(text):
    """Lines of one letter each; "<", "=" and ">" stand for marks."""
    return tuple(MARKS.get(letter, letter) for letter in text)


class PartsTest(unittest.TestCase):
    def check(self, text, *parts):
        self.assertEqual(conflict_parts(rows(text)), tuple((place, rows(one), rows(other))
                                                            for place, one, other in parts))

    def test_parts(self):
        self.check('')
        self.check('abc')
        self.check('a<b=c>d', (1, 'b', 'c'))
        self.check('<ab=cd>', (0, 'ab', 'cd'))
        self.check('<=>', (0, '', ''))
        self.check('a<b=>c<=d>', (1, 'b', ''), (6, '', 'd'))
        self.check('<a=b><c=d>', (0, 'a', 'b'), (5, 'c', 'd'))

    def test_a_merge(self):
        merged = merge_lines(rows('abc'), rows('xbcq'), rows('ybcr'))
        self.assertEqual(conflict_parts(merged.value), ((0, ('x',), ('y',)), (7, ('q',), ('r',))))
        self.assertEqual([part[0] for part in conflict_parts(merged.value)], list(merged.conflicts))

    def test_marks_astray(self):
        for text in ['=', '>', 'a=', 'a>', 'a=b>', '<a=b>=', '<a=b>>', '<a=b>c=', '>b<a=b>', '=<a=b>']:
            with self.subTest(text):
                self.assertRaises(PatchError, conflict_parts, rows(text))

    def test_marks_that_are_missing(self):
        for text in ['<', '<a', '<a=', '<a=b', '<a>', '<a>b=', '<>=', '<a=b><c', '<a=b><c=', '<a=b><c>', '<a><b=c>', 'x<a>y=z>']:
            with self.subTest(text):
                self.assertRaises(PatchError, conflict_parts, rows(text))


class SettlerTest(unittest.TestCase):
    def setUp(self):
        self.settler = Settler()

    def learn(self, text, settled):
        self.settler.learn(rows(text), rows(settled))
        return {(''.join(one), ''.join(other)): ''.join(lines) for (one, other), lines in self.settler.known.items()}

    def apply(self, text):
        lines, left = self.settler.apply(rows(text))
        self.assertIsInstance(lines, tuple)
        return ''.join({mark: letter for letter, mark in MARKS.items()}.get(line, line) for line in lines), left

    def test_a_new_settler(self):
        self.assertEqual(self.settler.known, {})
        self.assertEqual(self.apply('a<b=c>d'), ('a<b=c>d', 1))

    def test_what_was_learnt_is_settled_the_same_way(self):
        self.assertEqual(self.learn('a<b=c>d', 'axyd'), {('b', 'c'): 'xy'})
        self.assertEqual(self.settler.known, {(('b',), ('c',)): ('x', 'y')})
        self.assertEqual(self.apply('a<b=c>d'), ('axyd', 0))
        self.assertEqual(self.apply('q<b=c><b=c>'), ('qxyxy', 0))
        self.assertEqual(self.apply('qrs'), ('qrs', 0))

    def test_other_conflicts_stay_and_are_counted(self):
        self.learn('<b=c>', 'x')
        self.assertEqual(self.apply('1<b=d>2<b=c>3<c=b>4<=>5'), ('1<b=d>2x3<c=b>4<=>5', 3))

    def test_several_conflicts(self):
        self.assertEqual(self.learn('1<a=b>2<c=d>3<e=>4', '1x2y23z4'),
                         {('a', 'b'): 'x', ('c', 'd'): 'y2', ('e', ''): 'z'})
        self.assertEqual(self.apply('<e=>-<c=d>'), ('z-y2', 0))

    def test_conflicts_that_came_to_nothing_or_all(self):
        self.assertEqual(self.learn('1<a=b>2<c=d>', '12'), {('a', 'b'): '', ('c', 'd'): ''})
        self.assertEqual(self.learn('<a=b>', 'xyz'), {('a', 'b'): 'xyz', ('c', 'd'): ''})
        self.assertEqual(self.apply('<a=b>2<c=d>'), ('xyz2', 0))

    def test_the_earliest_place_and_at_the_end_for_the_last(self):
        self.assertEqual(self.learn('<a=b>1<c=d>', 'x1y1z'), {('a', 'b'): 'x', ('c', 'd'): 'y1z'})
        self.assertEqual(self.learn('0<e=f>1', '0x1y1'), {('a', 'b'): 'x', ('c', 'd'): 'y1z', ('e', 'f'): 'x1y'})
        self.assertEqual(self.learn('<g=h>12<i=j>1', 'x1112y121')[('g', 'h')], 'x11')
        self.assertEqual(self.settler.known[(('i',), ('j',))], ('y', '1', '2'))

    def test_conflicts_side_by_side(self):
        self.assertEqual(self.learn('1<a=b><c=d>2', '1xy2'), {('a', 'b'): '', ('c', 'd'): 'xy'})

    def test_the_latest_is_known(self):
        self.learn('<a=b>', 'x')
        self.assertEqual(self.learn('1<a=b>', '1y'), {('a', 'b'): 'y'})

    def test_no_conflicts(self):
        self.assertEqual(self.learn('abc', 'abc'), {})
        self.assertEqual(self.learn('', ''), {})
        for settled in ['ab', 'abcd', 'xabc', 'abx', '']:
            self.assertRaises(PatchError, self.learn, 'abc', settled)

    def test_lines_between_that_are_not_all_there(self):
        self.learn('<a=b>', 'x')
        for text, settled in [('1<a=b>2', 'x2'), ('1<a=b>2', '1x'), ('1<a=b>2', ''), ('1<a=b>2', '1'),
                              ('1<a=b>2', '12x'), ('1<a=b>2', 'x12'), ('1<a=b>1', '1'), ('12<a=b>3', '1x3'),
                              ('1<a=b>2<c=d>3', '1x3'), ('1<a=b>2<c=d>3', '13y2'), ('1<a=b>22<c=d>3', '12x23'),
                              ('1<a=b>23<c=d>3', '1x23'), ('<a=b>1<c=d>', 'xyz'), ('<a=b>12', '2'), ('<a=b>12', '1x2')]:
            with self.subTest(text=text, settled=settled):
                self.assertRaises(PatchError, self.learn, text, settled)
                self.assertEqual(self.settler.known, {(('a',), ('b',)): ('x',)})

    def test_marks_astray(self):
        for text in ['<a=b', 'a=', '<a>']:
            self.assertRaises(PatchError, self.learn, text, 'a')
            self.assertRaises(PatchError, self.apply, text)


if __name__ == '__main__':
    unittest.main()
