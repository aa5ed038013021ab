"""Point 11: the first bad commit, commits that touched a path, amounts, and lines with a word."""

import unittest

from landstack.contents import Contents
from landstack.errors import GraphError
from landstack.graph import Commit, Graph
from landstack.search import amounts, first_bad, lines_with, touching


class SearchCase(unittest.TestCase):
    def setUp(self):
        self.graph = Graph(Contents())

    def add(self, files, *parents, author='ann'):
        tree = self.graph.contents.put_files({path: tuple(lines) for path, lines in files.items()})
        return self.graph.add(Commit(tree, parents, author, len(self.graph.commits), 'm'))


class FirstBadTest(SearchCase):
    def make_line(self, many):
        """A line of commits whose merges have second parents that do not stand on it."""
        line = [self.add({})]
        while len(line) < many:
            side = self.add({'side': [str(len(line))]}, line[-1])
            line.append(self.add({'a': [str(len(line))]}, line[-1], side))
        return line

    def test_all_places_in_as_few_questions_as_halving_needs(self):
        line = self.make_line(40)
        for many in range(2, 41):
            most = (many - 2).bit_length()
            counts = []
            for place in range(1, many):
                asked = []

                def is_bad(number):
                    asked.append(number)
                    return number >= line[place]
                found, count = first_bad(self.graph, line[0], line[many - 1], is_bad)
                self.assertEqual((found, count), (line[place], len(asked)))
                self.assertEqual(len(set(asked)), len(asked))
                self.assertLessEqual(set(asked), set(line[1:many - 1]))
                counts.append(count)
            self.assertLessEqual(max(counts), most)
            self.assertGreaterEqual(min(counts), most - 1)

    def test_the_ends_are_not_asked(self):
        line = self.make_line(2)
        self.assertEqual(first_bad(self.graph, line[0], line[1], None), (line[1], 0))

    def test_the_line_may_begin_behind_the_first_commit(self):
        line = self.make_line(9)
        self.assertEqual(first_bad(self.graph, line[4], line[7], lambda number: number >= line[6])[0], line[6])
        self.assertEqual(first_bad(self.graph, line[4], line[7], lambda number: False), (line[7], 2))
        self.assertEqual(first_bad(self.graph, line[4], line[7], lambda number: True), (line[5], 1))

    def test_no_such_line(self):
        line = self.make_line(5)
        side = self.graph.commit(line[3]).parents[1]
        for good, bad in [(line[2], line[2]), (line[3], line[2]), (side, line[4]), (99, line[4]), (-1, line[4]),
                          (line[0], 99), (99, 99)]:
            with self.subTest(good=good, bad=bad):
                self.assertRaises(GraphError, first_bad, self.graph, good, bad, lambda number: True)
        self.assertEqual(first_bad(self.graph, line[2], side, None), (side, 0))


class TouchingTest(SearchCase):
    def test_the_latest_first(self):
        first = self.add({'a': 'x', 'b/c': 'y'})
        second = self.add({'a': 'xx', 'b/c': 'y'}, first)
        side = self.add({'a': 'xx', 'b/c': 'yy'}, second)
        join = self.add({'a': 'xx', 'b/c': 'yy', 'd': ''}, second, side)
        gone = self.add({'b/c': 'yy', 'd': ''}, join)
        end = self.add({'a': 'xx', 'b/c': 'yy', 'd': ''}, gone)
        self.assertEqual(touching(self.graph, end, 'a'), (end, gone, second, first))
        self.assertEqual(touching(self.graph, end, 'b/c'), (join, first))
        self.assertEqual(touching(self.graph, end, 'd'), (join,))
        self.assertEqual(touching(self.graph, side, 'b/c'), (side, first))
        self.assertEqual(touching(self.graph, end, 'b'), ())
        self.assertEqual(touching(self.graph, end, 'nope'), ())
        self.assertRaises(GraphError, touching, self.graph, 99, 'a')


class AmountsTest(SearchCase):
    def test_commits_and_lines(self):
        first = self.add({'a': 'xyz', 'b': ''})
        second = self.add({'a': 'xqz', 'b': '12'}, first, author='bob')
        side = self.add({'a': 'side'}, second, author='cy')
        join = self.add({'b': '2', 'c': 'rst'}, second, side, author='ann')
        self.assertEqual(amounts(self.graph, first), {'ann': (1, 3, 0)})
        self.assertEqual(amounts(self.graph, second), {'ann': (1, 3, 0), 'bob': (1, 3, 1)})
        self.assertEqual(amounts(self.graph, join), {'ann': (2, 6, 4), 'bob': (1, 3, 1)})
        same = self.add({'b': '2', 'c': 'rst'}, join, author='dan')
        self.assertEqual(amounts(self.graph, same)['dan'], (1, 0, 0))

    def test_lines_are_counted_by_the_longest_row(self):
        first = self.add({'a': 'abc'})
        second = self.add({'a': 'cab'}, first, author='bob')
        self.assertEqual(amounts(self.graph, second), {'ann': (1, 3, 0), 'bob': (1, 1, 1)})

    def test_unknown_commits(self):
        self.assertRaises(GraphError, amounts, self.graph, 0)


class LinesTest(SearchCase):
    def test_lines_in_order(self):
        number = self.add({'b': ['one two', 'three', 'two'], 'a/z': ['atwob', ''], 'a-z': ['two'], 'c': ['Two', 'tw o']})
        self.assertEqual(lines_with(self.graph, number, 'two'), (
            ('a-z', 0, 'two'), ('a/z', 0, 'atwob'), ('b', 0, 'one two'), ('b', 2, 'two')))
        self.assertEqual(lines_with(self.graph, number, 'e t'), (('b', 0, 'one two'),))
        self.assertEqual(lines_with(self.graph, number, 'nope'), ())
        self.assertEqual(len(lines_with(self.graph, number, '')), 8)
        self.assertRaises(GraphError, lines_with, self.graph, 1, 'two')


if __name__ == '__main__':
    unittest.main()
