"""Merging: two texts, or two trees, that come from a common one."""

from landstack.contents import folders_of
from landstack.difference import matches

OURS = '<<<<<<<'
MIDDLE = '======='
THEIRS = '>>>>>>>'


class Merged:
    """The lines or files that came of a merge, and where it could not be decided."""

    def __init__(self, value, conflicts):
        self.value = value
        self.conflicts = tuple(conflicts)

    def is_clean(self):
        """Return True if everything could be decided."""
        return self.conflicts == ()


def stable_places(base, one, other):
    """Return the (base, one, other) places of lines that both texts keep, and the ends, in order."""
    ours = dict(matches(base, one))
    theirs = dict(matches(base, other))
    kept = [place for place in range(len(base)) if place in ours and place in theirs]
    return [(place, ours[place], theirs[place]) for place in kept] + [(len(base), len(one), len(other))]


def merge_lines(base, one, other):
    """Return the merge of two texts that come from a base; where both changed in different ways, both are told.

    Conflicts are the numbers of lines of the merge, from 0 on, where their marks begin.
    """
    lines = []
    conflicts = []
    starts = (0, 0, 0)
    for places in stable_places(base, one, other):
        common, ours, theirs = [text[start:end] for text, start, end in zip((base, one, other), starts, places)]
        if ours == theirs or theirs == common:
            lines.extend(ours)
        elif ours == common:
            lines.extend(theirs)
        else:
            conflicts.append(len(lines))
            lines.extend([OURS, *ours, MIDDLE, *theirs, THEIRS])
        # The slice is empty at the ends, behind which no line stands.
        lines.extend(base[places[0]:places[0] + 1])
        starts = [place + 1 for place in places]
    return Merged(tuple(lines), conflicts)


def merge_path(base, one, other):
    """Return (text, True if it could be decided) of a path, of which each side has a text, or None for no file."""
    if one == other or other == base:
        return one, True
    if one == base:
        return other, True
    if one is None:
        return other, False
    if other is None or base is None:
        return one, False
    merged = merge_lines(base, one, other)
    return merged.value, merged.is_clean()


def merge_files(base, one, other):
    """Return the merge of two tables of paths and lines that come from a base; conflicts are paths, ascending."""
    files = {}
    undecided = []
    for path in sorted(set(base) | set(one) | set(other)):
        lines, decided = merge_path(base.get(path), one.get(path), other.get(path))
        if lines is not None:
            files[path] = lines
        if not decided:
            undecided.append(path)
    within = clashes(files)
    left = {path: lines for path, lines in files.items() if path not in within}
    return Merged(left, sorted(set(undecided) | set(within)))


def clashes(files):
    """Return the paths of a table that stand within another one's place, ascending."""
    return tuple(path for path in sorted(files) if any([folder in files for folder in folders_of(path)]))
