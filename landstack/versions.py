"""Versions: numbers in three parts, ranges of them, and rows of packages that fit together.

A range is a row of (sign, version); what a package needs are (name, range) rows.
"""

from landstack.difference import DIGITS
from landstack.errors import VersionError

SIGNS_OF_RANGES = ('^', '~', '>=', '<=', '<', '>', '')
MOST_PARTS = 3
MOST_DIGITS_OF_PARTS = 4
ANY = '*'
MOST_TRIES = 5000
MOST_PACKAGES = 100


def part_of(text):
    """Return the number of a version's part; raise VersionError for another text."""
    if not 0 < len(text) <= MOST_DIGITS_OF_PARTS or any(sign not in DIGITS for sign in text):
        raise VersionError(f'no part of a version: {text}')
    if len(text) > 1 and text[0] == '0':
        raise VersionError(f'a part of a version has a 0 ahead: {text}')
    return int(text)


def parse_version(text):
    """Return the three parts of "1.2.3"; raise VersionError for others, or parts above 9999."""
    parts = text.split('.')
    if len(parts) != MOST_PARTS:
        raise VersionError(f'no version: {text}')
    return tuple([part_of(part) for part in parts])


def version_text(version):
    """Return a version's text."""
    return '.'.join(str(part) for part in version)


def parse_row(text):
    """Return the (sign, version) of one row of a range."""
    # The last sign is none at all, so that there is always one.
    sign = [sign for sign in SIGNS_OF_RANGES if text.startswith(sign)][0]
    return sign, parse_version(text[len(sign):])


def parse_range(text):
    """Return the (sign, version) rows of a range, all of which must hold; "*" has none. VersionError for others."""
    if text == ANY:
        return ()
    return tuple([parse_row(row) for row in text.split(' ')])


def range_text(rows):
    """Return a range's text."""
    if len(rows) == 0:
        return ANY
    return ' '.join([sign + version_text(version) for sign, version in rows])


def upper_of(sign, version):
    """Return the version below which "^" or "~" ends."""
    first, second, third = version
    if sign == '^' and first > 0:
        return first + 1, 0, 0
    if sign == '~' or second > 0:
        return first, second + 1, 0
    return first, second, third + 1


def in_row(version, sign, bound):
    """Return True if a version is in one row of a range."""
    if sign == '<':
        return version < bound
    if sign == '>':
        return version > bound
    if sign == '<=':
        return version <= bound
    if sign == '>=':
        return version >= bound
    if sign == '':
        return version == bound
    return bound <= version < upper_of(sign, bound)


def in_range(version, rows):
    """Return True if a version is in a range."""
    return all(in_row(version, sign, bound) for sign, bound in rows)


class Shelf:
    """Packages by name: a table of versions to the rows (name, range) of what they need."""

    def __init__(self):
        self.rows = {}

    def put(self, name, version, needs):
        """Put a version of a package there; VersionError if it is there, or needs a package twice or itself."""
        names = [one for one, _ in needs]
        if version in self.rows.get(name, {}) or len({one: True for one in names}) != len(names) or name in names:
            raise VersionError(f'a version is there, or its needs are none: {name} {version_text(version)}')
        self.rows.setdefault(name, {})[version] = tuple([(one, tuple(rows)) for one, rows in needs])

    def versions(self, name):
        """Return a package's versions, the greatest first; none for an unknown one."""
        return sorted(self.rows.get(name, {}), reverse=True)

    def needs_of(self, name, version):
        """Return the (name, range) rows of what a version needs, None for one that is not there."""
        return self.rows.get(name, {}).get(version)


class Search:
    """A shelf, what was picked so far, and how many versions were tried."""

    def __init__(self, shelf):
        self.shelf = shelf
        self.picked = {}
        self.tries = 0

    def found(self, needs):
        """Return True if the packages that are needed, and not picked, could be; needs are all rows so far."""
        missing = [name for name, _ in needs if name not in self.picked]
        if missing == []:
            return True
        if len(self.picked) >= MOST_PACKAGES:
            raise VersionError('too many packages')
        name = min(missing)
        for version in self.shelf.versions(name):
            self.tries += 1
            if self.tries > MOST_TRIES:
                raise VersionError('too many tries')
            wider = needs + self.shelf.needs_of(name, version)
            self.picked[name] = version
            # Also what was picked before has to fit what this version needs.
            if self.fits(wider) and self.found(wider):
                return True
            self.picked.pop(name)
        return False

    def fits(self, needs):
        """Return True if all that is picked is in the ranges that are needed."""
        return all(name not in self.picked or in_range(self.picked[name], rows) for name, rows in needs)


class Solver:
    """A shelf, and how many versions were tried."""

    def __init__(self, shelf):
        self.shelf = shelf
        self.tries = 0

    def solve(self, needs):
        """Return a table of packages and versions that fit some (name, range) rows and each other.

        Packages are chosen one after another, always the first in alphabetical order that is needed and not chosen,
        with its greatest version that leads to an end. VersionError if nothing fits, after too many tries, or for too
        many packages.
        """
        search = Search(self.shelf)
        if not search.found(tuple(needs)):
            raise VersionError('nothing fits')
        self.tries = search.tries
        return search.picked


def is_met(picked, name, rows):
    """Return True if a package is picked, in a version that is in a range."""
    return name in picked and in_range(picked[name], rows)


def conflicts(picked, needs, shelf):
    """Return the (who, name) rows of what does not hold in a table of packages; who is "" for needs from outside.

    A package that is not picked, or not on the shelf, does not hold either.
    """
    found = [('', name) for name, rows in needs if not is_met(picked, name, rows)]
    for who in sorted(picked):
        own = shelf.needs_of(who, picked[who])
        if own is None:
            found.append(('', who))
        else:
            found.extend([(who, name) for name, rows in own if not is_met(picked, name, rows)])
    return tuple(found)
