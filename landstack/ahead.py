"""Ahead: which open changes would clash with each other, and in which order most of them could land."""

from landstack.errors import ReviewError
from landstack.merging import merge_files

MOST_CHANGES = 12


def merged_all(base, changes):
    """Return the files with changes (tables of files, each made over the same base) merged one after another, or None.

    None stands for a clash.
    """
    files = dict(base)
    for change in changes:
        merged = merge_files(base, files, change)
        if not merged.is_clean():
            return None
        files = merged.value
    return files


def clash(base, one, other):
    """Return True if two changes of a base cannot be merged."""
    return not merge_files(base, one, other).is_clean()


def clashes_between(base, changes):
    """Return the (place, place) pairs, ascending, of changes that clash."""
    many = len(changes)
    pairs = [(one, other) for one in range(many) for other in range(one + 1, many)]
    return tuple(pair for pair in pairs if clash(base, changes[pair[0]], changes[pair[1]]))


def largest_set(base, changes):
    """Return the places of as many changes as can land together in their order, of several sets the least one.

    Sets are compared as rows of places. Raise ReviewError for more than twelve changes.
    """
    if len(changes) > MOST_CHANGES:
        raise ReviewError(f'too many changes: {len(changes)}')
    return larger_set(base, changes, dict(base), (), 0, ())


def larger_set(base, changes, files, chosen, place, best):
    """Return the first set that is larger than the best one so far, or that one.

    Sets go on from the chosen changes, whose files are merged, with changes from a place on.
    """
    if len(chosen) + len(changes) - place <= len(best):
        return best
    if place == len(changes):
        return chosen
    merged = merge_files(base, files, changes[place])
    # Sets with this change are looked at first: of sets of one size the least one is found first.
    if merged.is_clean():
        best = larger_set(base, changes, merged.value, chosen + (place,), place + 1, best)
    return larger_set(base, changes, files, chosen, place + 1, best)


def greedy_set(base, changes):
    """Return the places of changes that land one after another, each that clashes with those before left out."""
    files = dict(base)
    places = []
    for place, change in enumerate(changes):
        merged = merge_files(base, files, change)
        if merged.is_clean():
            files = merged.value
            places.append(place)
    return tuple(places)
