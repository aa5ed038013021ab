"""Points 5 and 14: commits, ancestors, bases, and who wrote each line."""

import unittest

from landstack.contents import Contents
from landstack.errors import ContentError, GraphError
from landstack.graph import Commit, Graph


class GraphCase(unittest.TestCase):
    def setUp(self):
        self.contents = Contents()
        self.graph = Graph(self.contents)

    def add(self, files, parents=(), author='ann', time=0, message='m'):
        tree = self.contents.put_files({path: tuple(lines) for path, lines in files.items()})
        return self.graph.add(Commit(tree, tuple(parents), author, time, message))

    def grown(self, rows):
        """Add commits that differ by their messages, of rows of parents."""
        return [self.add({}, parents, message=str(place)) for place, parents in enumerate(rows)]


class CommitTest(GraphCase):
    def test_fields(self):
        commit = Commit(3, (1, 2), 'ann', 7, 'why')
        self.assertEqual(commit.shown(), (3, (1, 2), 'ann', 7, 'why'))
        self.assertEqual((commit.tree, commit.parents, commit.author, commit.time, commit.message),
                         (3, (1, 2), 'ann', 7, 'why'))

    def test_a_new_graph(self):
        self.assertEqual(self.graph.commits, [])
        self.assertIs(self.graph.contents, self.contents)

    def test_numbers(self):
        self.assertEqual(self.add({}), 0)
        self.assertEqual(self.add({}, (0,)), 1)
        self.assertEqual(self.graph.commit(1).shown(), (0, (0,), 'ann', 0, 'm'))
        self.assertEqual(len(self.graph.commits), 2)

    def test_an_equal_commit_has_the_same_number(self):
        self.add({'a': 'x'})
        self.add({'a': 'x'}, (0,))
        self.assertEqual(self.add({'a': 'x'}), 0)
        self.assertEqual(self.add({'a': 'x'}, (0,)), 1)
        for number, other in enumerate([dict(author='bob'), dict(time=1), dict(message='n'), dict(parents=(1,))]):
            self.assertEqual(self.add({'a': 'x'}, **other), number + 2)
        self.assertEqual(self.add({'a': 'y'}), 6)
        self.assertEqual(len(self.graph.commits), 7)

    def test_the_order_of_parents_counts(self):
        self.grown([(), ()])
        self.assertNotEqual(self.add({}, (0, 1)), self.add({}, (1, 0)))

    def test_parents_that_are_refused(self):
        self.grown([(), (0,), (0,)])
        for parents in ((0, 1, 2), (1, 1), (3,), (0, 3), (-1,), (-1, 0), (0, 0, 0)):
            with self.subTest(parents):
                self.assertRaises(GraphError, self.add, {}, parents)
        self.assertEqual(len(self.graph.commits), 3)

    def test_a_tree_that_is_none(self):
        text = self.contents.put_text(('a',))
        self.assertRaises(GraphError, self.graph.add, Commit(text, (), 'ann', 0, 'm'))
        self.assertRaises(ContentError, self.graph.add, Commit(7, (), 'ann', 0, 'm'))
        self.assertRaises(ContentError, self.graph.add, Commit(-1, (), 'ann', 0, 'm'))
        self.assertEqual(self.graph.commits, [])

    def test_writers_that_are_refused(self):
        for author in ('', ' ', 'a b', ' a', 'a '):
            with self.subTest(author):
                self.assertRaises(GraphError, self.add, {}, author=author)
        self.assertEqual(self.graph.commits, [])

    def test_times(self):
        self.assertEqual(self.add({}, time=0), 0)
        self.assertEqual(self.add({}, time=9999999), 1)
        for time in (-1, 10000000, 10000001):
            with self.subTest(time):
                self.assertRaises(GraphError, self.add, {}, time=time)

    def test_messages(self):
        self.assertEqual(self.add({}, message=''), 0)
        self.assertEqual(self.add({}, message='m' * 200), 1)
        for message in ('m' * 201, '\n', 'a\nb', 'a\n'):
            with self.subTest(message):
                self.assertRaises(GraphError, self.add, {}, message=message)

    def test_unknown_numbers(self):
        self.add({})
        for number in (-1, 1, 9):
            for ask in (self.graph.commit, self.graph.files, self.graph.ancestors, self.graph.line,
                        self.graph.changed):
                with self.subTest(number=number, ask=ask.__name__):
                    self.assertRaises(GraphError, ask, number)
            for ask in (self.graph.comes_from, self.graph.bases, self.graph.new_in):
                with self.subTest(number=number, ask=ask.__name__):
                    self.assertRaises(GraphError, ask, number, 0)
                    self.assertRaises(GraphError, ask, 0, number)
            self.assertRaises(GraphError, self.graph.writers, number, 'a')

    def test_files(self):
        files = {'a': ('x',), 'b/c': ()}
        self.assertEqual(self.graph.files(self.add(files)), files)


class AncestorsTest(GraphCase):
    def setUp(self):
        super().setUp()
        #   0 - 1 - 3 - 5 - 7      2 is a child of 0, 4 joins 2 and 1, 6 stands apart, 8 joins 7 and 6
        self.grown([(), (0,), (0,), (1,), (2, 1), (3, 4), (), (5,), (7, 6)])

    def test_ancestors(self):
        self.assertEqual(self.graph.ancestors(0), (0,))
        self.assertEqual(self.graph.ancestors(3), (0, 1, 3))
        self.assertEqual(self.graph.ancestors(4), (0, 1, 2, 4))
        self.assertEqual(self.graph.ancestors(8), (0, 1, 2, 3, 4, 5, 6, 7, 8))

    def test_comes_from(self):
        self.assertTrue(self.graph.comes_from(4, 4))
        self.assertTrue(self.graph.comes_from(5, 2))
        self.assertFalse(self.graph.comes_from(2, 5))
        self.assertFalse(self.graph.comes_from(3, 2))
        self.assertFalse(self.graph.comes_from(7, 6))

    def test_bases(self):
        self.assertEqual(self.graph.bases(3, 4), (1,))
        self.assertEqual(self.graph.bases(1, 2), (0,))
        self.assertEqual(self.graph.bases(5, 4), (4,))
        self.assertEqual(self.graph.bases(4, 4), (4,))
        self.assertEqual(self.graph.bases(7, 6), ())

    def test_several_bases(self):
        one, other = self.add({}, (1, 2), message='x'), self.add({}, (2, 1), message='y')
        self.assertEqual(self.graph.bases(one, other), (1, 2))
        self.assertEqual(self.graph.bases(self.add({}, (one,)), self.add({}, (other, 3))), (1, 2))

    def test_new_in(self):
        self.assertEqual(self.graph.new_in(5, 1), (2, 3, 4, 5))
        self.assertEqual(self.graph.new_in(4, 3), (2, 4))
        self.assertEqual(self.graph.new_in(3, 4), (3,))
        self.assertEqual(self.graph.new_in(1, 5), ())
        self.assertEqual(self.graph.new_in(6, 0), (6,))

    def test_numbers_ascend_wherever_they_stand(self):
        for place in range(9, 16):
            self.add({}, message=str(place))
        end = self.add({}, (1,), message='end')
        self.assertEqual(end, 16)
        self.assertEqual(self.graph.new_in(end, 0), (1, 16))
        for place in range(17, 25):
            apart = self.add({}, message=str(place))
        self.assertEqual(apart, 24)
        one, other = self.add({}, (apart, 6), message='x'), self.add({}, (6, apart), message='y')
        self.assertEqual(self.graph.bases(one, other), (6, 24))
        self.assertEqual(self.graph.ancestors(one), (6, 24, 25))

    def test_line(self):
        self.assertEqual(self.graph.line(8), (8, 7, 5, 3, 1, 0))
        self.assertEqual(self.graph.line(4), (4, 2, 0))
        self.assertEqual(self.graph.line(6), (6,))

    def test_a_long_line(self):
        end = self.add({}, message='first')
        for place in range(3000):
            end = self.add({}, (end,), time=place)
        self.assertEqual(len(self.graph.line(end)), 3001)
        self.assertEqual(len(self.graph.ancestors(end)), 3001)


class ChangedTest(GraphCase):
    def test_all_paths_of_a_first_one(self):
        self.assertEqual(self.graph.changed(self.add({'b': 'x', 'a/c': '', 'a-': 'y'})), ('a-', 'a/c', 'b'))
        self.assertEqual(self.graph.changed(self.add({})), ())

    def test_paths_against_the_first_parent(self):
        first = self.add({'a': 'x', 'b': 'y', 'c': 'z'})
        other = self.add({'a': 'x', 'b': 'v', 'd/e': ''}, (first,))
        self.assertEqual(self.graph.changed(other), ('b', 'c', 'd/e'))
        apart = self.add({'a': 'w'})
        self.assertEqual(self.graph.changed(self.add({'a': 'x', 'b': 'v', 'd/e': 'u'}, (other, apart))), ('d/e',))
        self.assertEqual(self.graph.changed(self.add({'a': 'w', 'b': 'v'}, (apart, other))), ('b',))


class WritersTest(GraphCase):
    def test_each_line_by_the_commit_that_wrote_it(self):
        first = self.add({'a': 'bcd'})
        second = self.add({'a': 'bxcd'}, (first,))
        third = self.add({'a': 'bxcyz'}, (second,))
        self.assertEqual(self.graph.writers(first, 'a'), (first,) * 3)
        self.assertEqual(self.graph.writers(second, 'a'), (first, second, first, first))
        self.assertEqual(self.graph.writers(third, 'a'), (first, second, first, third, third))

    def test_a_commit_that_leaves_the_text_as_it_was(self):
        first = self.add({'a': 'bc'})
        second = self.add({'a': 'bc', 'd': ''}, (first,))
        third = self.add({'a': 'bcd'}, (second,))
        self.assertEqual(self.graph.writers(third, 'a'), (first, first, third))

    def test_a_line_that_went_and_came_back_is_new(self):
        first = self.add({'a': 'bc'})
        third = self.add({'a': 'bc'}, (self.add({'a': 'b'}, (first,)),), message='back')
        self.assertEqual(self.graph.writers(third, 'a'), (first, third))

    def test_a_text_that_went_and_came_back_is_new(self):
        first = self.add({'a': 'bc'})
        third = self.add({'a': 'bc'}, (self.add({}, (first,)),), message='back')
        self.assertEqual(self.graph.writers(third, 'a'), (third, third))

    def test_a_line_that_was_dropped_and_put_elsewhere_is_new(self):
        first = self.add({'a': 'bc'})
        second = self.add({'a': 'cb'}, (first,))
        # By point 3 a line of the elder text is left out first, so that "c" is the line that is shared.
        self.assertEqual(self.graph.writers(second, 'a'), (first, second))

    def test_only_first_parents_count(self):
        first = self.add({'a': 'b'})
        ours = self.add({'a': 'b', 'd': ''}, (first,))
        theirs = self.add({'a': 'bc'}, (first,))
        self.assertEqual(self.graph.writers(self.add({'a': 'bc'}, (ours, theirs)), 'a')[1], 3)
        self.assertEqual(self.graph.writers(self.add({'a': 'bc'}, (theirs, ours)), 'a'), (first, theirs))

    def test_an_empty_text(self):
        self.assertEqual(self.graph.writers(self.add({'a': ''}), 'a'), ())

    def test_paths_that_are_not_there(self):
        first = self.add({'a': 'b', 'c/d': ''})
        second = self.add({}, (first,))
        for number, path in ((first, 'b'), (first, 'c'), (second, 'a'), (first, '')):
            with self.subTest(path):
                self.assertRaises(GraphError, self.graph.writers, number, path)
