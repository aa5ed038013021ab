"""Search: which commit began a fault, which commits touched a path, and who wrote how much."""

from landstack.difference import counts, patch_between
from landstack.errors import GraphError


def first_bad(graph, good, bad, is_bad):
    """Return (the first bad commit on the line of first parents from a good one to a bad one, how many were asked).

    Raise GraphError if the good commit does not stand on that line before the bad one. What lies between is halved;
    the ends are not asked.
    """
    line = graph.line(bad)
    if good not in line or good == bad:
        raise GraphError(f'commit {good} does not stand on the line before {bad}')
    row = line[:line.index(good) + 1][::-1]
    low = 0
    high = len(row) - 1
    asked = 0
    while high - low > 1:
        middle = (low + high) // 2
        asked += 1
        if is_bad(row[middle]):
            high = middle
        else:
            low = middle
    return row[high], asked


def touching(graph, number, path):
    """Return the commits on the line of first parents that changed a path, the latest first."""
    return tuple(here for here in graph.line(number) if path in graph.changed(here))


def amount_of(graph, number):
    """Return (lines added, lines dropped) by a commit against its first parent."""
    parents = graph.commit(number).parents
    before = graph.files(parents[0]) if parents else {}
    after = graph.files(number)
    added, dropped = 0, 0
    for path in graph.changed(number):
        more, less = counts(patch_between(before.get(path, ()), after.get(path, ())))
        added += more
        dropped += less
    return added, dropped


def amounts(graph, number):
    """Return a table of authors to (commits, lines added, lines dropped) on the line of first parents."""
    table = {}
    for here in graph.line(number):
        author = graph.commit(here).author
        many, added, dropped = table.get(author, (0, 0, 0))
        more, less = amount_of(graph, here)
        table[author] = (many + 1, added + more, dropped + less)
    return table


def lines_with(graph, number, word):
    """Return the (path, place, line) rows of a commit's lines that hold a word, in order."""
    files = graph.files(number)
    return tuple([(path, place, line) for path in sorted(files) for place, line in enumerate(files[path])
                  if word in line])
