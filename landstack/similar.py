"""Likeness: which files of one tree became which ones of another, when names have changed."""

from landstack.difference import matches
from landstack.errors import ContentError

HALF = 50
MOST_ALIKE = 100


def likeness(one, other):
    """Return how alike two texts are, from 0 to 100: twice the lines that both share in order, by all lines, times 100.

    Rounded down; two empty texts are 100.
    """
    lines = len(one) + len(other)
    if lines == 0:
        return MOST_ALIKE
    return 2 * len(matches(one, other)) * MOST_ALIKE // lines


class Moves:
    """What became of the files of one tree: kept paths, moves (old, new, likeness), what is gone, and what is new."""

    def __init__(self, kept, moved, gone, fresh):
        self.kept = tuple(kept)
        self.moved = tuple(moved)
        self.gone = tuple(gone)
        self.fresh = tuple(fresh)

    def shown(self):
        """Return (kept, moved, gone, fresh)."""
        return self.kept, self.moved, self.gone, self.fresh


def last_name(path):
    """Return the last name of a path."""
    return path.split('/')[-1]


def alike_pairs(before, after, least):
    """Return the (old, new, likeness) rows of paths that only one has, which are alike enough, in the order of taking.

    The most alike stand first, of equals those of the same last name, then by old and new path.
    """
    rows = []
    for old in [path for path in before if path not in after]:
        for new in [path for path in after if path not in before]:
            alike = likeness(before[old], after[new])
            if alike >= least:
                rows.append((MOST_ALIKE - alike, last_name(old) != last_name(new), old, new))
    return [(old, new, MOST_ALIKE - other) for other, _, old, new in sorted(rows)]


def moves_between(before, after, least=HALF):
    """Return what became of files, tables of paths and lines; raise ContentError for a least not from 1 to 100.

    A path that both have is kept. Of the others the most alike pairs are moves, down to the least likeness.
    """
    if not 1 <= least <= MOST_ALIKE:
        raise ContentError(f'no least likeness: {least}')
    left = {}
    come = {}
    moved = []
    for old, new, alike in alike_pairs(before, after, least):
        # Each file moves once.
        if old not in left and new not in come:
            left[old] = True
            come[new] = True
            moved.append((old, new, alike))
    kept = [path for path in sorted(before) if path in after]
    gone = [path for path in sorted(before) if path not in after and path not in left]
    fresh = [path for path in sorted(after) if path not in before and path not in come]
    return Moves(kept, sorted(moved), gone, fresh)


def path_before(before, after, path):
    """Return the path that a file had before, None if it was not there."""
    if path in before:
        return path
    old_paths = {new: old for old, new, _ in moves_between(before, after).moved}
    return old_paths.get(path)


def followed(graph, number, path):
    """Return the (commit, path) rows of a file's way back along first parents, the newest first, through moves.

    It ends where the file was made. Raise ContentError if it is not there.
    """
    files = graph.files(number)
    if path not in files:
        raise ContentError(f'no such file: {path}')
    rows = [(number, path)]
    for here in graph.line(number)[1:]:
        before = graph.files(here)
        path = path_before(before, files, path)
        if path is None:
            break
        rows.append((here, path))
        files = before
    return tuple(rows)
