"""Anchors: where remarks about lines stand when a text becomes another one."""

from landstack.difference import matches
from landstack.errors import ReviewError

STATES_OF_ANCHORS = ('same', 'moved', 'changed', 'gone')


class Anchor:
    """A path, the first and the last line's place (both in the text), the lines themselves, and a state."""

    def __init__(self, path, first, last, lines):
        self.path = path
        self.first = first
        self.last = last
        self.lines = tuple(lines)
        self.state = 'same'

    def shown(self):
        """Return (path, first, last, lines, state)."""
        return self.path, self.first, self.last, self.lines, self.state


def make_anchor(files, path, first, last):
    """Return an anchor at lines of a table of paths to texts; raise ReviewError if they are not there."""
    if path not in files or not 0 <= first <= last < len(files[path]):
        raise ReviewError(f'no such lines: {path} from {first} to {last}')
    return Anchor(path, first, last, files[path][first:last + 1])


def gone_anchor(anchor):
    """Return an anchor that stays as it was, but for its lines that are gone."""
    gone = Anchor(anchor.path, anchor.first, anchor.last, anchor.lines)
    gone.state = 'gone'
    return gone


def state_behind(anchor, path, kept):
    """Return the state of an anchor by the path and the places that its lines have behind a change."""
    old = list(range(anchor.first, anchor.last + 1))
    if kept == old and path == anchor.path:
        return 'same'
    # Places ascend: as many of them as lines, in a span of that length, stand one behind the other.
    if len(kept) == len(old) and kept[-1] - kept[0] == anchor.last - anchor.first:
        return 'moved'
    return 'changed'


def moved_anchor(anchor, before, after, moves=()):
    """Return an anchor as it stands behind a change, by tables of paths to texts before and after it.

    moves are (old path, new path) rows. Where its path or all of its lines are not there any more, an anchor is gone,
    stays as it was, and stays gone. Raise ReviewError for one that is not gone at a path that was not there before.
    """
    if anchor.state == 'gone':
        return gone_anchor(anchor)
    if anchor.path not in before:
        raise ReviewError(f'the path was not there: {anchor.path}')
    new_paths = {old: new for old, new in moves}
    path = new_paths.get(anchor.path, anchor.path)
    if path not in after:
        return gone_anchor(anchor)
    pairs = matches(before[anchor.path], after[path])
    kept = [new for old, new in pairs if anchor.first <= old <= anchor.last]
    if kept == []:
        return gone_anchor(anchor)
    moved = Anchor(path, kept[0], kept[-1], after[path][kept[0]:kept[-1] + 1])
    moved.state = state_behind(anchor, path, kept)
    return moved


class Discussion:
    """Anchors by number, and the (person, text) rows said at each; and which are settled."""

    def __init__(self):
        self.anchors = {}
        self.said = {}
        self.settled = {}

    def begin(self, anchor, person, text):
        """Begin to talk at an anchor, and return its number, from 0 on; raise ReviewError for no text."""
        if text == '':
            raise ReviewError('nothing is said')
        number = len(self.said)
        self.anchors[number] = anchor
        self.said[number] = [(person, text)]
        self.settled[number] = False
        return number

    def answer(self, number, person, text):
        """Say more; what was settled is open again. Raise ReviewError for an unknown number, or no text."""
        if number not in self.said or text == '':
            raise ReviewError(f'no talk has the number {number}, or nothing is said')
        self.said[number].append((person, text))
        self.settled[number] = False

    def settle(self, number):
        """Settle what is talked about; raise ReviewError for an unknown number."""
        if number not in self.said:
            raise ReviewError(f'no talk has the number {number}')
        self.settled[number] = True

    def move(self, before, after, moves=()):
        """Move all anchors behind a change; talks whose lines are gone are settled. Return the numbers of those."""
        moved = {number: moved_anchor(anchor, before, after, moves) for number, anchor in self.anchors.items()}
        # What was gone before is not told again, and stays open where somebody answered since.
        gone = [number for number in sorted(moved)
                if moved[number].state == 'gone' and self.anchors[number].state != 'gone']
        self.anchors = moved
        for number in gone:
            self.settled[number] = True
        return tuple(gone)

    def open_at(self, path):
        """Return the numbers of talks at a path that are not settled, by first lines, then numbers."""
        rows = [(anchor.first, number) for number, anchor in self.anchors.items()
                if anchor.path == path and not self.settled[number]]
        return tuple(number for _, number in sorted(rows))
