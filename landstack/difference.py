"""Differences: which lines two texts share, and patches that lead from one to the other.

A patch is a row of ("keep", number of lines), ("drop", lines) and ("add", lines); no two of a class stand together,
and drops stand before adds.
"""

from landstack.errors import PatchError

DIGITS = '0123456789'
MOST_DIGITS = 6
SIGNS_OF_WORDS = {'drop': '- ', 'add': '+ '}
WORDS_OF_SIGNS = {'- ': 'drop', '+ ': 'add'}
WORDS_BACK = {'keep': 'keep', 'drop': 'add', 'add': 'drop'}


def common_rows(one, other):
    """Return the table of how many lines the ends of two texts from each place on share, in order."""
    rows = [[0] * (len(other) + 1)]
    for line in reversed(one):
        below = rows[-1]
        row = [0] * (len(other) + 1)
        for place in range(len(other) - 1, -1, -1):
            if line == other[place]:
                row[place] = below[place + 1] + 1
            else:
                row[place] = max(below[place], row[place + 1])
        rows.append(row)
    rows.reverse()
    return rows


def same_start(one, other):
    """Return how many lines two texts share from the beginning on."""
    many = 0
    while many < len(one) and many < len(other) and one[many] == other[many]:
        many += 1
    return many


def matches(one, other):
    """Return the (place, place) pairs of a longest row of lines that two texts share.

    Equal lines are taken where they meet; else a line of the first is left out where that loses none,
    else one of the second.
    """
    # Lines that meet from the beginning on are taken anyway: the table, which is dear, is made of the rest alone.
    start = same_start(one, other)
    pairs = [(place, place) for place in range(start)]
    rows = common_rows(one[start:], other[start:])
    here, there = start, start
    while here < len(one) and there < len(other):
        if one[here] == other[there]:
            pairs.append((here, there))
            here += 1
            there += 1
        elif rows[here - start + 1][there - start] == rows[here - start][there - start]:
            here += 1
        else:
            there += 1
    return tuple(pairs)


def patch_between(one, other):
    """Return the patch that leads from a text to another one."""
    rows = []
    kept, here, there = 0, 0, 0
    # The ends are taken for a last pair, behind which no line stands.
    for old, new in [*matches(one, other), (len(one), len(other))]:
        if kept > 0 and (here < old or there < new):
            rows.append(('keep', kept))
            kept = 0
        if here < old:
            rows.append(('drop', tuple(one[here:old])))
        if there < new:
            rows.append(('add', tuple(other[there:new])))
        kept, here, there = kept + 1, old + 1, new + 1
    if kept > 1:
        rows.append(('keep', kept - 1))
    return tuple(rows)


def apply_patch(lines, patch):
    """Return the text to which a patch leads from another one; raise PatchError if it does not fit."""
    found = []
    place = 0
    for word, value in patch:
        if word == 'add':
            found.extend(value)
            continue
        many = value if word == 'keep' else len(value)
        here = tuple(lines[place:place + many])
        if place + many > len(lines) or (word == 'drop' and here != tuple(value)):
            raise PatchError(f'a patch does not fit at line {place}')
        if word == 'keep':
            found.extend(here)
        place += many
    if place != len(lines):
        raise PatchError('a patch ends too early')
    return tuple(found)


def turned(patch):
    """Return the patch that leads back."""
    rows = []
    for word, value in patch:
        if word == 'add' and rows and rows[-1][0] == 'add':
            # Lines were put in the place of others: on the way back, too, drops stand before adds.
            rows.insert(len(rows) - 1, ('drop', value))
        else:
            rows.append((WORDS_BACK[word], value))
    return tuple(rows)


def patch_text(patch):
    """Return a patch as lines: "= n", "- line" and "+ line"."""
    lines = []
    for word, value in patch:
        if word == 'keep':
            lines.append(f'= {value}')
        else:
            lines.extend([SIGNS_OF_WORDS[word] + line for line in value])
    return tuple(lines)


def number_kept(text):
    """Return the number of lines to keep; raise PatchError for another text."""
    if text == '' or any(letter not in DIGITS for letter in text) or text[0] == '0' or len(text) > MOST_DIGITS:
        raise PatchError(f'no number: {text}')
    return int(text)


def read_patch(lines):
    """Return the patch of lines; raise PatchError for others, or a patch that would be told in another way."""
    found = []
    for line in lines:
        sign, rest = line[:2], line[2:]
        if sign == '= ':
            found.append(('keep', number_kept(rest)))
        elif sign not in WORDS_OF_SIGNS:
            raise PatchError(f'no line of a patch: {line}')
        elif found and found[-1][0] == WORDS_OF_SIGNS[sign]:
            found[-1] = (found[-1][0], found[-1][1] + (rest,))
        else:
            found.append((WORDS_OF_SIGNS[sign], (rest,)))
    for one, other in zip(found, found[1:]):
        if one[0] == other[0] or (one[0] == 'add' and other[0] == 'drop'):
            raise PatchError('a patch is told in another way')
    return tuple(found)


def counts(patch):
    """Return (lines added, lines dropped) of a patch."""
    added = sum([len(value) for word, value in patch if word == 'add'])
    dropped = sum([len(value) for word, value in patch if word == 'drop'])
    return added, dropped
