"""Point 19: logbooks, their marks, and the proofs of rows and of growth."""

import unittest

from landstack.errors import ProofError
from landstack.logbook import (Logbook, check_growth, check_row, joined_mark, leaf_mark, mark_by, parts_between,
                               split_of)

MODULUS = 2 ** 61 - 1
ROWS = [f'row {number}' for number in range(20)]


def leaf(text):
    value = 11
    for sign in text:
        value = (1000003 * value + ord(sign)) % MODULUS
    return value


def joined(one, other):
    value = (1000003 * ((1000003 * 13 + one) % MODULUS) + other) % MODULUS
    return (value * value + 5) % MODULUS


def logbook(rows=ROWS):
    book = Logbook()
    for row in rows:
        book.add(row)
    return book


class MarkTest(unittest.TestCase):
    def test_marks_of_rows(self):
        self.assertEqual(leaf_mark(''), 11)
        self.assertEqual(leaf_mark('a'), 11 * 1000003 + 97)
        for text in ('ab', 'ba', 'some longer row, with signs: {}', '\n', '\u20ac'):
            self.assertEqual(leaf_mark(text), leaf(text))
            self.assertTrue(0 <= leaf_mark(text) < MODULUS)

    def test_joined_marks(self):
        self.assertEqual(joined_mark(0, 0), ((13 * 1000003 * 1000003 % MODULUS) ** 2 + 5) % MODULUS)
        self.assertEqual(joined_mark(3, 4), joined(3, 4))
        self.assertEqual(joined_mark(MODULUS - 1, MODULUS - 2), joined(MODULUS - 1, MODULUS - 2))
        self.assertNotEqual(joined_mark(3, 4), joined_mark(4, 3))

    def test_split_of(self):
        told = {2: 1, 3: 2, 4: 2, 5: 4, 7: 4, 8: 4, 9: 8, 15: 8, 16: 8, 17: 16, 1023: 512, 1024: 512, 1025: 1024}
        self.assertEqual({many: split_of(many) for many in told}, told)

    def test_marks_of_the_first_rows(self):
        book = logbook()
        a, b, c, d, e, f, g, h = [leaf(row) for row in ROWS[:8]]
        four = joined(joined(a, b), joined(c, d))
        told = {0: 0, 1: a, 2: joined(a, b), 3: joined(joined(a, b), c), 4: four, 5: joined(four, e),
                7: joined(four, joined(joined(e, f), g)), 8: joined(four, joined(joined(e, f), joined(g, h)))}
        self.assertEqual({many: book.mark(many) for many in told}, told)
        self.assertEqual(book.mark(9), joined(told[8], leaf(ROWS[8])))

    def test_rows_and_places(self):
        book = Logbook()
        self.assertEqual((book.rows, book.mark(0)), ([], 0))
        self.assertEqual([book.add('a'), book.add('a'), book.add('')], [0, 1, 2])
        self.assertEqual(book.rows, ['a', 'a', ''])
        for many in (-1, 4, 100):
            self.assertRaises(ProofError, book.mark, many)
        self.assertEqual(book.mark(3), joined(joined(leaf('a'), leaf('a')), 11))

    def test_a_row_that_is_changed_shows(self):
        book = logbook()
        before = book.mark(20)
        book.rows[7] = 'other'
        self.assertNotEqual(book.mark(20), before)
        book.rows[7] = ROWS[7]
        self.assertEqual(book.mark(20), before)
        book.rows[0], book.rows[1] = book.rows[1], book.rows[0]
        self.assertNotEqual(book.mark(20), before)


def spoiled(proof):
    """Proofs that are changed, cut, longer or in another order."""
    found = [proof[:-1], proof[1:], (*proof, 0), (0, *proof), (*proof, *proof[-1:])]
    for place, mark in enumerate(proof):
        found.append((*proof[:place], mark + 1, *proof[place + 1:]))
        found.append((*proof[:place], *proof[place + 1:], mark))
    return [one for one in found if one != proof]


class RowProofTest(unittest.TestCase):
    def setUp(self):
        self.book = logbook()

    def test_proofs_of_all_rows_hold(self):
        for many in range(1, 21):
            for place in range(many):
                proof = self.book.proof_of_row(place, many)
                self.assertIsInstance(proof, tuple)
                self.assertIsNone(check_row(ROWS[place], place, many, proof, self.book.mark(many)))

    def test_the_nearest_first(self):
        a, b, c, d, e = [leaf(row) for row in ROWS[:5]]
        self.assertEqual(self.book.proof_of_row(0, 1), ())
        self.assertEqual(self.book.proof_of_row(0, 5), (b, joined(c, d), e))
        self.assertEqual(self.book.proof_of_row(2, 5), (d, joined(a, b), e))
        self.assertEqual(self.book.proof_of_row(4, 5), (joined(joined(a, b), joined(c, d)),))

    def test_nothing_else_holds(self):
        for many in range(1, 12):
            mark = self.book.mark(many)
            for place in range(many):
                proof = self.book.proof_of_row(place, many)
                self.refused('other', place, many, proof, mark)
                self.refused(ROWS[place], place, many, proof, mark + 1)
                for other in range(-1, many + 2):
                    if other != place:
                        self.refused(ROWS[place], other, many, proof, mark)
                for one in spoiled(proof):
                    self.refused(ROWS[place], place, many, one, mark)

    def test_other_numbers_do_not_hold(self):
        # A proof tells a number of rows by its length and its sides alone, but the mark is that of its own number.
        for many in range(2, 12):
            for place in range(many):
                proof = self.book.proof_of_row(place, many)
                for other in range(0, 14):
                    if other != many:
                        self.refused(ROWS[place], place, other, proof, self.book.mark(other))

    def refused(self, *values):
        self.assertRaises(ProofError, check_row, *values)

    def test_places_that_are_out_of_range(self):
        for place, many in [(-1, 5), (5, 5), (6, 5), (0, 0), (0, 21), (20, 21), (0, -1)]:
            self.assertRaises(ProofError, self.book.proof_of_row, place, many)
            self.assertRaises(ProofError, check_row, ROWS[0], place, many if many < 21 else 0, (), leaf(ROWS[0]))
        self.assertEqual(len(self.book.proof_of_row(19, 20)), 3)


class GrowthProofTest(unittest.TestCase):
    def setUp(self):
        self.book = logbook()

    def test_parts_between(self):
        told = {(0, 8, 5): [(0, 4), (4, 5), (5, 6), (6, 8)], (0, 8, 8): [(0, 8)], (0, 8, 0): [(0, 8)],
                (0, 7, 3): [(0, 2), (2, 3), (3, 4), (4, 7)], (0, 7, 6): [(0, 4), (4, 6), (6, 7)], (0, 0, 0): [],
                (4, 4, 9): [], (0, 1, 1): [(0, 1)], (0, 6, 4): [(0, 4), (4, 6)], (2, 5, 1): [(2, 5)], (2, 5, 9): [(2, 5)],
                (2, 5, 4): [(2, 4), (4, 5)]}
        self.assertEqual({row: parts_between(*row) for row in told}, told)

    def test_proofs_between_all_pairs_hold(self):
        for many in range(21):
            for few in range(many + 1):
                proof = self.book.proof_of_growth(few, many)
                self.assertIsInstance(proof, tuple)
                self.assertIsNone(check_growth(few, many, proof, self.book.mark(few), self.book.mark(many)))

    def test_what_a_proof_has(self):
        a, b, c, d, e = [leaf(row) for row in ROWS[:5]]
        two, four = joined(a, b), joined(joined(a, b), joined(c, d))
        told = {(0, 0): (), (0, 1): (a,), (1, 1): (a,), (0, 5): (joined(four, e),), (5, 5): (joined(four, e),),
                (4, 5): (four, e), (3, 5): (two, c, d, e), (2, 5): (two, joined(c, d), e), (1, 5): (a, b, joined(c, d), e)}
        self.assertEqual({row: self.book.proof_of_growth(*row) for row in told}, told)

    def test_nothing_else_holds(self):
        for many in range(10):
            for few in range(many + 1):
                before, after = self.book.mark(few), self.book.mark(many)
                proof = self.book.proof_of_growth(few, many)
                self.refused(few, many, proof, before + 1, after)
                self.refused(few, many, proof, before, after + 1)
                for one in spoiled(proof):
                    self.refused(few, many, one, before, after)
                for other in range(-1, many + 2):
                    if other != few:
                        self.refused(other, many, proof, before, after)
                for other in range(-1, 12):
                    if other != many:
                        self.refused(few, other, proof, before, self.book.mark(max(other, 0)))

    def refused(self, *values):
        self.assertRaises(ProofError, check_growth, *values)

    def test_a_logbook_that_was_changed_did_not_grow(self):
        before = self.book.mark(6)
        self.book.rows[2] = 'changed'
        self.refused(6, 11, self.book.proof_of_growth(6, 11), before, self.book.mark(11))
        other = logbook(ROWS[:5] + ['else'] + ROWS[5:])
        for few in range(6, 20):
            self.refused(few, 20, other.proof_of_growth(few, 20), logbook().mark(few), other.mark(20))

    def test_numbers_that_are_out_of_range(self):
        for few, many in [(-1, 5), (6, 5), (0, 21), (21, 21), (0, -1)]:
            self.assertRaises(ProofError, self.book.proof_of_growth, few, many)
        for few, many in [(-1, 5), (6, 5), (0, -1), (-1, -1)]:
            self.refused(few, many, (), 0, 0)

    def test_mark_by(self):
        marks = {(0, 2): 3, (2, 3): 4, (3, 4): 5}
        self.assertEqual(mark_by(marks, 0, 0), 0)
        self.assertEqual(mark_by(marks, 7, 7), 0)
        self.assertEqual(mark_by(marks, 0, 2), 3)
        self.assertEqual(mark_by(marks, 0, 4), joined(3, joined(4, 5)))
        for start, end in [(0, 1), (1, 2), (0, 5), (4, 5), (1, 3), (5, 3)]:
            self.assertRaises(ProofError, mark_by, marks, start, end)
        self.assertRaises(ProofError, mark_by, {}, 0, 8)


if __name__ == '__main__':
    unittest.main()
