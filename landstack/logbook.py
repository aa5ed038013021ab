"""Logbooks: rows that nobody can change afterwards, as short proofs tell.

A mark tells rows; the mark of more than one row is joined of the marks of the two parts into which they fall.
"""

from landstack.builds import MODULUS, taken_in
from landstack.errors import ProofError

FIRST_OF_LEAF = 11
FIRST_OF_JOIN = 13
MARK_OF_NONE = 0


def leaf_mark(text):
    """Return the mark of a row."""
    value = FIRST_OF_LEAF
    for sign in text:
        value = taken_in(value, ord(sign))
    return value


def joined_mark(one, other):
    """Return the mark of two marks side by side."""
    value = taken_in(taken_in(FIRST_OF_JOIN, one), other)
    return (value * value + 5) % MODULUS


def split_of(many):
    """Return the greatest power of 2 below a number above 1: where a tree of so many rows is parted."""
    power = 1
    while power * 2 < many:
        power *= 2
    return power


class Logbook:
    """Rows, and their marks."""

    def __init__(self):
        self.rows = []

    def add(self, text):
        """Add a row and return its place."""
        self.rows.append(text)
        return len(self.rows) - 1

    def mark(self, many):
        """Return the mark of the first so many rows, 0 of none; raise ProofError for more than there are."""
        if not 0 <= many <= len(self.rows):
            raise ProofError(f'there are not {many} rows')
        return self.mark_between(0, many)

    def mark_between(self, start, end):
        """Return the mark of the rows from one place on, up to below another one."""
        if start == end:
            return MARK_OF_NONE
        if end - start == 1:
            # The mark is worked out of the row each time: a row that was changed from outside shows.
            return leaf_mark(self.rows[start])
        middle = start + split_of(end - start)
        return joined_mark(self.mark_between(start, middle), self.mark_between(middle, end))

    def proof_of_row(self, place, many):
        """Return the marks that prove that a row stands at a place of the first so many, the nearest first."""
        if not 0 <= place < many <= len(self.rows):
            raise ProofError(f'no place of {many} rows: {place}')
        return tuple([self.mark_between(start, end) for start, end in parts_beside(place, many)])

    def proof_of_growth(self, few, many):
        """Return the marks that prove that the first few rows are the beginning of the first many."""
        if not 0 <= few <= many <= len(self.rows):
            raise ProofError(f'{few} rows are no beginning of {many}')
        return tuple([self.mark_between(start, end) for start, end in parts_between(0, many, few)])


def parts_beside(place, many):
    """Return the (start, end) parts that stand beside a place of so many rows, the nearest first."""
    parts = []
    start, end = 0, many
    while end - start > 1:
        middle = start + split_of(end - start)
        if place < middle:
            parts.append((middle, end))
            end = middle
        else:
            parts.append((start, middle))
            start = middle
    return parts[::-1]


def parts_between(start, end, cut):
    """Return the (start, end) parts into which a tree's rows fall if none of them may lie on both sides of a cut."""
    if start == end:
        return []
    if not start < cut < end:
        return [(start, end)]
    middle = start + split_of(end - start)
    return parts_between(start, middle, cut) + parts_between(middle, end, cut)


def check_row(text, place, many, proof, mark):
    """Raise ProofError if a proof does not show that a row stands at a place of so many rows with a mark."""
    if not 0 <= place < many:
        raise ProofError(f'no place of {many} rows: {place}')
    turns = parts_beside(place, many)
    if len(turns) != len(proof):
        raise ProofError('the proof has another length')
    found = leaf_mark(text)
    for (start, _), beside in zip(turns, proof):
        found = joined_mark(found, beside) if place < start else joined_mark(beside, found)
    if found != mark:
        raise ProofError('the row is not there')


def check_growth(few, many, proof, before, after):
    """Raise ProofError if a proof does not show that few rows with a mark are the beginning of many with another."""
    if not 0 <= few <= many:
        raise ProofError(f'{few} rows are no beginning of {many}')
    parts = parts_between(0, many, few)
    if len(parts) != len(proof):
        raise ProofError('the proof has another length')
    marks = {part: mark for part, mark in zip(parts, proof)}
    if mark_by(marks, 0, few) != before or mark_by(marks, 0, many) != after:
        raise ProofError('the rows are others')


def mark_by(marks, start, end):
    """Return the mark of rows by the marks of parts; raise ProofError if the parts do not tell it."""
    if start == end:
        return MARK_OF_NONE
    if (start, end) in marks:
        return marks[(start, end)]
    # What ends ahead of its start has no mark either: else this would go on for ever.
    if end - start <= 1:
        raise ProofError(f'no mark of the rows from {start} to {end}')
    middle = start + split_of(end - start)
    return joined_mark(mark_by(marks, start, middle), mark_by(marks, middle, end))
