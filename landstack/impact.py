"""Impact: which tests a change can touch, how they are shared among machines, and which of them cannot be trusted."""

from landstack.errors import CheckError
from landstack.policy import fits_path

MOST_MACHINES = 50


class Suite:
    """Tests by name: (patterns of paths, other tests' names that it needs, how long it takes)."""

    def __init__(self):
        self.tests = {}

    def add(self, name, patterns, needs=(), length=1):
        """Add a test that looks at paths of some patterns and needs others; raise CheckError."""
        if name in self.tests or name == '' or length < 1 or any(need not in self.tests for need in needs):
            raise CheckError(f'no test: {name}')
        self.tests[name] = (tuple(patterns), tuple(needs), length)

    def check_names(self, names):
        """Raise CheckError for an unknown test."""
        if any(name not in self.tests for name in names):
            raise CheckError('no such test')

    def touched(self, paths):
        """Return the tests, in the order in which they were added, that changed paths can touch, by others too."""
        found = {}
        # A test stands behind those that it needs, so that one look at each is enough.
        for name, (patterns, needs, _) in self.tests.items():
            if any(need in found for need in needs) or any(
                    fits_path(pattern, path) for pattern in patterns for path in paths):
                found[name] = True
        return tuple(found)

    def with_needs(self, names):
        """Return tests and all that they need, in the order in which they were added; CheckError for unknown ones."""
        self.check_names(names)
        wanted = {name: True for name in names}
        for name in list(self.tests)[::-1]:
            if name in wanted:
                for need in self.tests[name][1]:
                    wanted[need] = True
        return tuple([name for name in self.tests if name in wanted])

    def shares(self, names, machines):
        """Return the tests of each machine: the longest go first, each to the machine with the least so far.

        Of tests of one length the first by name goes first, of machines with as much the first one.
        """
        if not 1 <= machines <= MOST_MACHINES:
            raise CheckError(f'no number of machines: {machines}')
        self.check_names(names)
        shared = [[] for _ in range(machines)]
        loads = [0] * machines
        for name in sorted(names, key=lambda test: (-self.tests[test][2], test)):
            least = loads.index(min(loads))
            shared[least].append(name)
            loads[least] += self.tests[name][2]
        return tuple([tuple(tests) for tests in shared])


class Trust:
    """What came of tests: (test, tree, good) rows, in order."""

    def __init__(self):
        self.rows = []

    def note(self, test, tree, good):
        """Note what came of a test."""
        self.rows.append((test, tree, good))

    def last_rows(self):
        """Return a table of (test, tree) to what came of it last."""
        return {(test, tree): good for test, tree, good in self.rows}

    def doubtful(self, many=2):
        """Return the tests, ascending, that were good and bad on one tree, on so many trees at least."""
        seen = {row: True for row in self.rows}
        trees = {test: 0 for test, _, _ in self.rows}
        for test, tree in self.last_rows():
            if (test, tree, True) in seen and (test, tree, False) in seen:
                trees[test] += 1
        return tuple([test for test in sorted(trees) if trees[test] >= many])

    def verdict(self, tree, tests):
        """Return "bad" if a test that can be trusted last was bad on a tree, "missing" if one has no row, else "good".

        Tests that cannot be trusted do not count; bad goes ahead of missing.
        """
        doubtful = self.doubtful()
        last = self.last_rows()
        found = [last.get((test, tree)) for test in tests if test not in doubtful]
        if False in found:
            return 'bad'
        return 'missing' if None in found else 'good'

    def bad_since(self, test, trees):
        """Return the first of some trees, in order, that have a row, from which on a test last was bad on all of them.

        None if there is none.
        """
        last = self.last_rows()
        since = None
        for tree in trees:
            good = last.get((test, tree))
            if good:
                since = None
            elif good is not None and since is None:
                since = tree
        return since
