"""Point 22: what some heads need of a graph, and the smaller graph that holds just that."""

import unittest

from landstack.contents import Contents
from landstack.errors import GraphError
from landstack.graph import Commit, Graph
from landstack.storage import Compact, check_graph, compacted, needed_commits, needed_contents, sizes


class StorageCase(unittest.TestCase):
    def setUp(self):
        self.graph = Graph(Contents())
        self.lost = self.add({'lost': ['1', '2']}, message='lost')
        self.first = self.add({'a': ['x'], 'b/c': ['y', 'z']}, author='bob', time=4, message='first')
        self.one = self.add({'a': ['x', 'x']}, [self.first], message='one')
        self.gone = self.add({'a': ['gone']}, [self.first], message='gone')
        self.two = self.add({'d/e/f': []}, [self.first], message='two')
        self.join = self.add({'a': ['x', 'x'], 'd/e/f': []}, [self.two, self.one], 'cy', 9, 'join')
        self.other = self.add({'a': ['x']}, [self.lost], message='other')

    def add(self, files, parents=(), author='ann', time=0, message='m'):
        tree = self.graph.contents.put_files({path: tuple(lines) for path, lines in files.items()})
        return self.graph.add(Commit(tree, tuple(parents), author, time, message))

    def put_from_outside(self, tree, parents):
        self.graph.commits.append(Commit(tree, parents, 'ann', 0, 'm'))
        return len(self.graph.commits) - 1


class NeededTest(StorageCase):
    def test_commits(self):
        self.assertEqual(needed_commits(self.graph, [self.join]), (self.first, self.one, self.two, self.join))
        self.assertEqual(needed_commits(self.graph, (self.other, self.first)), (self.lost, self.first, self.other))
        self.assertEqual(needed_commits(self.graph, [self.one, self.one, self.first]), (self.first, self.one))
        self.assertEqual(needed_commits(self.graph, []), ())

    def test_contents(self):
        trees = [self.graph.commit(number).tree for number in (self.first, self.one)]
        found = sorted({number for tree in trees for number in self.graph.contents.reachable(tree)})
        self.assertEqual(needed_contents(self.graph, [self.one]), tuple(found))
        self.assertEqual(needed_contents(self.graph, [self.lost, self.one]),
                         tuple(sorted({*found, *self.graph.contents.reachable(self.graph.commit(self.lost).tree)})))
        self.assertEqual(needed_contents(self.graph, []), ())

    def test_contents_that_were_there_before_their_commits(self):
        tree = self.graph.contents.put_files({'z': ('z',)})
        self.add({'y': ['y']})
        late = self.graph.add(Commit(tree, (), 'ann', 0, 'late'))
        found = needed_contents(self.graph, [late, late - 1])
        self.assertEqual((found, len(found)), (tuple(sorted(found)), 4))

    def test_unknown_heads(self):
        for call in (needed_commits, needed_contents, compacted, sizes):
            self.assertRaises(GraphError, call, self.graph, [self.first, 7])
            self.assertRaises(GraphError, call, self.graph, [-1])


class CompactTest(StorageCase):
    def check(self, heads):
        small = compacted(self.graph, heads)
        self.assertIsInstance(small, Compact)
        needed = needed_commits(self.graph, heads)
        self.assertEqual(small.commits, {old: new for new, old in enumerate(needed)})
        self.assertEqual(len(small.graph.commits), len(needed))
        contents = needed_contents(self.graph, heads)
        self.assertEqual(small.contents, {old: new for new, old in enumerate(contents)})
        self.assertEqual(len(small.graph.contents.rows), len(contents))
        for old, new in small.commits.items():
            one, other = self.graph.commit(old), small.graph.commit(new)
            self.assertEqual(self.graph.files(old), small.graph.files(new))
            self.assertEqual(other.shown(), (small.contents[one.tree], tuple(small.commits[p] for p in one.parents),
                                             one.author, one.time, one.message))
        for old, new in small.contents.items():
            content = small.graph.contents.content_of(new)
            if content[0] == 'text':
                self.assertEqual(content, self.graph.contents.content_of(old))
        check_graph(small.graph)
        return small

    def test_what_heads_need(self):
        for heads in ([self.join], [self.other], [self.one, self.other], [self.gone, self.two], (), [self.first] * 2,
                      list(range(7))):
            with self.subTest(heads):
                self.check(heads)

    def test_the_old_graph_stays_and_the_new_one_goes_on(self):
        many = len(self.graph.commits), len(self.graph.contents.rows)
        small = self.check([self.join])
        one = self.graph.commit(self.first)
        again = Commit(small.contents[one.tree], (), one.author, one.time, one.message)
        self.assertEqual(small.graph.add(again), small.commits[self.first])
        small.graph.contents.put_text(('new',))
        self.assertEqual((len(self.graph.commits), len(self.graph.contents.rows)), many)

    def test_nothing_is_needed(self):
        small = compacted(self.graph, [])
        self.assertEqual((small.graph.commits, small.graph.contents.rows, small.commits, small.contents),
                         ([], [], {}, {}))

    def test_graphs_that_are_none(self):
        tree = self.graph.commit(self.one).tree
        text = self.graph.contents.put_text(('x',))
        bad = self.put_from_outside(tree, (len(self.graph.commits) + 1,))
        end = self.put_from_outside(tree, (self.one,))
        self.assertRaises(GraphError, compacted, self.graph, [bad])
        self.assertRaises(GraphError, compacted, self.graph, [self.put_from_outside(text, ())])
        self.assertRaises(GraphError, compacted, self.graph, [self.put_from_outside(999, ())])
        self.check([end - 2])


class SizesTest(StorageCase):
    def test_sizes(self):
        contents = self.graph.contents.rows
        lines = sum(len(row[1]) for row in contents if row[0] == 'text')
        everything = (7, len(contents), lines)
        self.assertEqual(lines, 2 + 1 + 2 + 2 + 1 + 0)
        self.assertEqual(sizes(self.graph, []), ((0, 0, 0), everything))
        # Two texts, the tree "b" and the tree at the top.
        self.assertEqual(sizes(self.graph, [self.first]), ((1, 4, 3), everything))
        self.assertEqual(sizes(self.graph, [self.one, self.first]), ((2, 6, 5), everything))
        self.assertEqual(sizes(self.graph, range(7)), (everything, everything))

    def test_an_empty_graph(self):
        self.assertEqual(sizes(Graph(Contents()), ()), ((0, 0, 0), (0, 0, 0)))


class CheckTest(StorageCase):
    def test_good_graphs(self):
        self.assertIsNone(check_graph(self.graph))
        empty = Graph(Contents())
        self.assertIsNone(check_graph(empty))
        # The tree of no files is the first content here.
        empty.add(Commit(empty.contents.put_files({}), (), 'ann', 0, 'm'))
        self.assertIsNone(check_graph(empty))
        self.put_from_outside(self.graph.commit(self.one).tree, (self.one, self.two))
        self.assertIsNone(check_graph(self.graph))

    def test_parents_that_do_not_stand_ahead(self):
        tree = self.graph.commit(self.one).tree
        for parents in [(7,), (8,), (-1,), (self.one, 7), (99, self.one)]:
            with self.subTest(parents):
                self.put_from_outside(tree, parents)
                self.assertRaises(GraphError, check_graph, self.graph)
                self.graph.commits.pop()

    def test_trees_that_are_none(self):
        text = self.graph.contents.put_text(('x',))
        for tree in [text, len(self.graph.contents.rows), -1]:
            with self.subTest(tree):
                self.put_from_outside(tree, ())
                self.assertRaises(GraphError, check_graph, self.graph)
                self.graph.commits.pop()
        self.graph.commits[self.gone].tree = text
        self.assertRaises(GraphError, check_graph, self.graph)


if __name__ == '__main__':
    unittest.main()
