"""Settling: conflicts that were settled once are settled the same way again."""

from landstack.errors import PatchError
from landstack.merging import MIDDLE, OURS, THEIRS

MARKS = 3


def place_of(lines, mark, start):
    """Return the first place from a start on where a mark stands, None without one."""
    for place in range(start, len(lines)):
        if lines[place] == mark:
            return place
    return None


def conflict_parts(lines):
    """Return ((place, ours, theirs), ..) of the conflicts in a merge's lines; raise PatchError for marks astray."""
    found = []
    place = 0
    while place < len(lines):
        if lines[place] in (MIDDLE, THEIRS):
            raise PatchError(f'a mark is astray in line {place}')
        if lines[place] != OURS:
            place += 1
            continue
        middle = place_of(lines, MIDDLE, place)
        end = place_of(lines, THEIRS, place)
        if middle is None or end is None or end < middle:
            raise PatchError(f'a mark is missing behind line {place}')
        found.append((place, tuple(lines[place + 1:middle]), tuple(lines[middle + 1:end])))
        place = end + 1
    return tuple(found)


def end_of(part):
    """Return the place of the line behind a conflict."""
    place, ours, theirs = part
    return place + len(ours) + len(theirs) + MARKS


def place_of_row(lines, row, start):
    """Return the first place from a start on where some lines stand one behind the other; raise PatchError for none."""
    for place in range(start, len(lines) - len(row) + 1):
        if tuple(lines[place:place + len(row)]) == row:
            return place
    raise PatchError('other lines stand between the conflicts')


class Settler:
    """What conflicts of two parts came to."""

    def __init__(self):
        self.known = {}

    def learn(self, lines, settled):
        """Note what each conflict of a merge came to: the lines that stand in its place in the settled text.

        Raise PatchError if the lines between the conflicts are not all there, in order.
        """
        parts = conflict_parts(lines)
        learnt = {}
        at = parts[0][0] if parts else len(lines)
        if tuple(settled[:at]) != tuple(lines[:at]):
            raise PatchError('other lines stand at the beginning')
        stops = [later[0] for later in parts[1:]] + [len(lines)]
        for part, stop in zip(parts, stops):
            plain = tuple(lines[end_of(part):stop])
            # What stands behind the last conflict stands at the end: lines alike ahead of it are what it came to.
            start = max(at, len(settled) - len(plain)) if stop == len(lines) else at
            place = place_of_row(settled, plain, start)
            learnt[part[1:]] = tuple(settled[at:place])
            at = place + len(plain)
        if at != len(settled):
            raise PatchError('other lines stand at the end')
        for key, row in learnt.items():
            self.known[key] = row

    def apply(self, lines):
        """Return (lines in which known conflicts are settled, how many are left)."""
        found = []
        left = 0
        place = 0
        for part in conflict_parts(lines):
            found.extend(lines[place:part[0]])
            place = end_of(part)
            if part[1:] in self.known:
                found.extend(self.known[part[1:]])
            else:
                found.extend(lines[part[0]:place])
                left += 1
        found.extend(lines[place:])
        return tuple(found), left
