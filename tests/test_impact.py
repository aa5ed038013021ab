"""Point 24: tests that a change can touch, their shares among machines, and which of them can be trusted."""

import random
import unittest

from landstack.errors import CheckError
from landstack.impact import Suite, Trust


class SuiteTest(unittest.TestCase):
    def setUp(self):
        self.suite = Suite()
        self.suite.add('unit', ['src/*.py', 'lib/**'], (), 3)
        self.suite.add('docs', ('docs/**',))
        self.suite.add('flow', [], ['unit'], 5)
        self.suite.add('all', ['*'], ('flow', 'docs'), 2)
        self.suite.add('alone', ['src/a.py'])

    def refused(self, *values):
        before = dict(self.suite.tests)
        self.assertRaises(CheckError, self.suite.add, *values)
        self.assertEqual(self.suite.tests, before)

    def test_what_cannot_be_added(self):
        self.refused('unit', ['other'])
        self.refused('', ['a'])
        self.refused('new', ['a'], (), 0)
        self.refused('new', ['a'], (), -1)
        self.refused('new', ['a'], ['nothing'])
        self.refused('new', ['a'], ['unit', 'new'])
        self.suite.add('new', [], ['unit', 'unit'], 1)
        self.assertEqual(self.suite.tests['new'], ((), ('unit', 'unit'), 1))
        self.assertEqual(self.suite.tests['docs'], (('docs/**',), (), 1))

    def test_touched_by_a_pattern_or_by_what_is_needed(self):
        told = {('src/b.py',): ('unit', 'flow', 'all'), ('src/a.py',): ('unit', 'flow', 'all', 'alone'),
                ('docs/x/y',): ('docs', 'all'), ('top',): ('all',), ('src/x/b.py',): (), (): (),
                ('lib/x', 'docs/a'): ('unit', 'docs', 'flow', 'all'), ('nothing/a', 'other/b'): ()}
        self.assertEqual({paths: self.suite.touched(paths) for paths in told}, told)
        self.assertEqual(Suite().touched(['a']), ())

    def test_with_needs_in_the_order_of_adding(self):
        told = {('all',): ('unit', 'docs', 'flow', 'all'), ('alone', 'flow'): ('unit', 'flow', 'alone'),
                ('docs',): ('docs',), ('flow', 'unit'): ('unit', 'flow'), (): ()}
        self.assertEqual({names: self.suite.with_needs(names) for names in told}, told)
        for names in (['nothing'], ['unit', 'nothing'], ['']):
            self.assertRaises(CheckError, self.suite.with_needs, names)

    def test_shares(self):
        suite = Suite()
        for name, length in [('d', 2), ('a', 2), ('c', 5), ('b', 2), ('e', 4), ('f', 1)]:
            suite.add(name, [], (), length)
        names = ['a', 'b', 'c', 'd', 'e', 'f']
        # c: 5, e: 4, then a to the second (6), b to the first (7), d to the second (8), f to the first (8).
        self.assertEqual(suite.shares(names, 2), (('c', 'b', 'f'), ('e', 'a', 'd')))
        self.assertEqual(suite.shares(names[::-1], 2), suite.shares(names, 2))
        self.assertEqual(suite.shares(names, 1), (('c', 'e', 'a', 'b', 'd', 'f'),))
        self.assertEqual(suite.shares(['d', 'a', 'b'], 3), (('a',), ('b',), ('d',)))
        self.assertEqual(suite.shares(['d'], 3), (('d',), (), ()))
        self.assertEqual(suite.shares([], 2), ((), ()))

    def test_numbers_of_machines(self):
        self.assertEqual(len(self.suite.shares(['unit'], 50)), 50)
        for machines in (0, -1, 51):
            self.assertRaises(CheckError, self.suite.shares, ['unit'], machines)
            self.assertRaises(CheckError, self.suite.shares, [], machines)
        self.assertRaises(CheckError, self.suite.shares, ['unit', 'nothing'], 2)

    def test_many_suites_against_another_way(self):
        drawn = random.Random(4)
        for _ in range(50):
            suite, rows = Suite(), []
            for number in range(drawn.randrange(1, 8)):
                patterns = drawn.sample(['a', 'b', 'c'], drawn.randrange(2))
                needs = drawn.sample([row[0] for row in rows], min(len(rows), drawn.randrange(3)))
                rows.append((f't{drawn.random()}', patterns, needs, drawn.randrange(1, 5)))
                suite.add(*rows[-1])
            table = {row[0]: row for row in rows}

            def reach(name):
                return {name}.union(*[reach(need) for need in table[name][2]])
            paths = drawn.sample(['a', 'b', 'c'], drawn.randrange(3))
            self.assertEqual(suite.touched(paths), tuple(
                name for name in table if any(set(table[one][1]) & set(paths) for one in reach(name))))
            asked = drawn.sample(list(table), drawn.randrange(len(table) + 1))
            needed = set().union(*[reach(name) for name in asked])
            self.assertEqual(suite.with_needs(asked), tuple(name for name in table if name in needed))
            machines = drawn.randrange(1, 4)
            shared = [[] for _ in range(machines)]
            for name in sorted(sorted(asked), key=lambda name: table[name][3], reverse=True):
                min(shared, key=lambda tests: sum(table[one][3] for one in tests)).append(name)
            self.assertEqual(suite.shares(asked, machines), tuple(map(tuple, shared)))


class TrustTest(unittest.TestCase):
    def setUp(self):
        self.trust = Trust()

    def note(self, *rows):
        for test, tree, good in rows:
            self.trust.note(test, tree, good)

    def test_rows(self):
        self.assertEqual(self.trust.rows, [])
        self.note(('a', 3, True), ('a', 3, True), ('b', 1, False))
        self.assertEqual(self.trust.rows, [('a', 3, True), ('a', 3, True), ('b', 1, False)])

    def test_doubtful_on_one_and_on_two_trees(self):
        self.note(('b', 1, True), ('b', 1, False), ('b', 1, True), ('a', 1, True), ('a', 2, False), ('a', 3, False))
        self.assertEqual(self.trust.doubtful(), ())
        self.assertEqual(self.trust.doubtful(1), ('b',))
        self.note(('b', 2, False), ('b', 2, True), ('a', 1, False), ('c', 1, True))
        self.assertEqual(self.trust.doubtful(), ('b',))
        self.assertEqual(self.trust.doubtful(1), ('a', 'b'))
        self.assertEqual(self.trust.doubtful(3), ())
        self.note(('a', 3, True))
        self.assertEqual(self.trust.doubtful(2), ('a', 'b'))

    def test_verdicts(self):
        self.assertEqual(self.trust.verdict(1, []), 'good')
        self.assertEqual(self.trust.verdict(1, ['a']), 'missing')
        self.note(('a', 1, True), ('b', 1, False), ('c', 2, True))
        self.assertEqual(self.trust.verdict(1, ['a']), 'good')
        self.assertEqual(self.trust.verdict(1, ['a', 'c']), 'missing')
        self.assertEqual(self.trust.verdict(2, ['c']), 'good')
        # "bad" goes ahead of "missing", in either order.
        self.assertEqual(self.trust.verdict(1, ['c', 'b', 'a']), 'bad')
        self.assertEqual(self.trust.verdict(1, ['b', 'c']), 'bad')
        self.assertEqual(self.trust.verdict(1, []), 'good')

    def test_the_last_row_on_a_tree_counts(self):
        self.note(('a', 1, False), ('a', 2, False), ('a', 1, True))
        self.assertEqual(self.trust.verdict(1, ['a']), 'good')
        self.assertEqual(self.trust.verdict(2, ['a']), 'bad')
        self.note(('a', 1, False))
        self.assertEqual(self.trust.verdict(1, ['a']), 'bad')

    def test_what_cannot_be_trusted_does_not_count(self):
        self.note(('a', 1, True), ('a', 1, False), ('b', 1, True))
        self.assertEqual(self.trust.verdict(1, ['a', 'b']), 'bad')
        self.note(('a', 2, True), ('a', 2, False))
        self.assertEqual(self.trust.verdict(1, ['a', 'b']), 'good')
        self.assertEqual(self.trust.verdict(2, ['a']), 'good')
        self.assertEqual(self.trust.verdict(3, ['a']), 'good')
        self.assertEqual(self.trust.verdict(3, ['a', 'b']), 'missing')

    def test_bad_since(self):
        self.assertIsNone(self.trust.bad_since('a', [1, 2]))
        self.note(('a', 1, True), ('a', 3, False), ('a', 5, False), ('b', 2, True), ('b', 4, True))
        self.assertEqual(self.trust.bad_since('a', [1, 2, 3, 4, 5, 6]), 3)
        self.assertEqual(self.trust.bad_since('a', [5, 4, 3, 2]), 5)
        self.assertEqual(self.trust.bad_since('a', [4, 5]), 5)
        self.assertIsNone(self.trust.bad_since('a', [3, 5, 1]))
        self.assertIsNone(self.trust.bad_since('a', [2, 4, 6]))
        self.assertIsNone(self.trust.bad_since('a', []))
        self.assertIsNone(self.trust.bad_since('b', [1, 2, 3, 4]))

    def test_good_again_in_between(self):
        self.note(('a', 1, False), ('a', 2, True), ('a', 4, False), ('a', 5, False), ('a', 5, True))
        self.assertIsNone(self.trust.bad_since('a', [1, 2, 3, 4, 5]))
        self.assertEqual(self.trust.bad_since('a', [1, 2, 3, 4]), 4)
        self.note(('a', 5, False))
        self.assertEqual(self.trust.bad_since('a', [1, 2, 3, 4, 5]), 4)
        self.note(('a', 2, False))
        self.assertEqual(self.trust.bad_since('a', [1, 2, 3, 4, 5]), 1)


if __name__ == '__main__':
    unittest.main()
