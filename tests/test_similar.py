"""Point 22: how alike texts are, what became of files, and the way back of a file."""

import unittest

from landstack.contents import Contents
from landstack.errors import ContentError, GraphError
from landstack.graph import Commit, Graph
from landstack.similar import HALF, Moves, followed, likeness, moves_between


def text(letters):
    return tuple(letters)


def table(**rows):
    return {path.replace('_', '/'): text(letters) for path, letters in rows.items()}


class LikenessTest(unittest.TestCase):
    def test_likeness(self):
        for one, other, many in [('', '', 100), ('a', '', 0), ('', 'a', 0), ('a', 'a', 100), ('a', 'b', 0),
                                 ('ab', 'ba', 50), ('abc', 'ab', 80), ('ab', 'ac', 50), ('abc', 'axc', 66),
                                 ('aab', 'ab', 80), ('abcdef', 'a', 28), ('a', 'a' * 200, 0), ('a', 'a' * 199, 1),
                                 ('a' * 99 + 'b', 'a' * 99 + 'c', 99), ('a' * 200, 'a' * 199, 99)]:
            with self.subTest(one=one, other=other):
                self.assertEqual(likeness(text(one), text(other)), many)
                self.assertEqual(likeness(text(other), text(one)), many)


class MovesTest(unittest.TestCase):
    def shown(self, before, after, *rest):
        return moves_between(before, after, *rest).shown()

    def test_half(self):
        self.assertEqual(HALF, 50)

    def test_fields(self):
        moves = Moves(('a',), (('b', 'c', 60),), ('d',), ('e', 'f'))
        self.assertEqual((moves.kept, moves.moved, moves.gone, moves.fresh),
                         (('a',), (('b', 'c', 60),), ('d',), ('e', 'f')))
        self.assertEqual(moves.shown(), (('a',), (('b', 'c', 60),), ('d',), ('e', 'f')))

    def test_what_both_have_is_kept(self):
        self.assertEqual(self.shown(table(a='xyz', b='q'), table(b='xyz', a='q')), (('a', 'b'), (), (), ()))
        self.assertEqual(self.shown(table(a='xyz'), table(a='q', b='xyz')), (('a',), (), (), ('b',)))
        self.assertEqual(self.shown(table(b='q', a='q'), table(a='q')), (('a',), (), ('b',), ()))
        self.assertEqual(self.shown({}, {}), ((), (), (), ()))

    def test_rows_are_told_ascending(self):
        before = table(z='1', y='2', q='m', p='n', d='3', c='4')
        after = table(z='1', y='2', b='n', a='m', x='5', w='6')
        self.assertEqual(self.shown(before, after), (('y', 'z'), (('p', 'b', 100), ('q', 'a', 100)), ('c', 'd'), ('w', 'x')))

    def test_moved_gone_and_new(self):
        before = table(b='abcd', a='xyz', keep='k', gone='1')
        after = table(c='abc', d='xyzw', keep='', z='2', y='3')
        self.assertEqual(self.shown(before, after),
                         (('keep',), (('a', 'd', 85), ('b', 'c', 85)), ('gone',), ('y', 'z')))

    def test_the_most_alike_first(self):
        self.assertEqual(self.shown(table(a='abcd', b='abcx'), table(c='abcx')), ((), (('b', 'c', 100),), ('a',), ()))
        self.assertEqual(self.shown(table(a='abcd'), table(b='abxy', c='abcx')), ((), (('a', 'c', 75),), (), ('b',)))
        # The pair that is taken first leaves the other ones to what is left, though "a" is more like "c" than "b".
        self.assertEqual(self.shown(table(a='abcde', b='abcdx'), table(c='abcdx', d='abyyy')),
                         ((), (('b', 'c', 100),), ('a',), ('d',)))
        self.assertEqual(self.shown(table(a='abcde', b='abcdx'), table(c='abcdx', d='abyyy'), 40),
                         ((), (('a', 'd', 40), ('b', 'c', 100)), (), ()))

    def test_of_equals_the_same_last_name(self):
        self.assertEqual(self.shown(table(a='x', o_z='x'), table(n_z='x', b='x')),
                         ((), (('a', 'b', 100), ('o/z', 'n/z', 100)), (), ()))
        self.assertEqual(self.shown(table(o_z='x'), table(a='x', n_z='x')), ((), (('o/z', 'n/z', 100),), (), ('a',)))
        self.assertEqual(self.shown(table(o_z='x'), table(n_z_y='x', n_a='x', q_xz='x')),
                         ((), (('o/z', 'n/a', 100),), (), ('n/z/y', 'q/xz')))
        # A name does not go ahead of likeness.
        self.assertEqual(self.shown(table(o_z='xy'), table(n_z='xq', b='xy')), ((), (('o/z', 'b', 100),), (), ('n/z',)))

    def test_of_equals_by_paths(self):
        self.assertEqual(self.shown(table(b='x', a='x', c='x'), table(f='x', e='x')),
                         ((), (('a', 'e', 100), ('b', 'f', 100)), ('c',), ()))
        self.assertEqual(self.shown(table(a='x'), table(c='x', b='x')), ((), (('a', 'b', 100),), (), ('c',)))

    def test_empty_texts_are_alike(self):
        self.assertEqual(self.shown(table(a=''), table(b='')), ((), (('a', 'b', 100),), (), ()))

    def test_least_likeness(self):
        before, after = table(a='ab'), table(b='ac')
        self.assertEqual(self.shown(before, after)[1], (('a', 'b', 50),))
        self.assertEqual(self.shown(before, after, 50)[1], (('a', 'b', 50),))
        self.assertEqual(self.shown(before, after, 51), ((), (), ('a',), ('b',)))
        self.assertEqual(moves_between(before, after, least=1).moved, (('a', 'b', 50),))
        self.assertEqual(self.shown(table(a='a'), table(b='a' * 199), 1)[1], (('a', 'b', 1),))
        self.assertEqual(self.shown(table(a='a'), table(b='b'), 1)[1], ())
        self.assertEqual(self.shown(table(a='a', b='bc'), table(c='a', d='bd'), 100)[1], (('a', 'c', 100),))

    def test_wrong_least_likeness(self):
        for least in (0, 101, -1):
            self.assertRaises(ContentError, moves_between, {}, {}, least)

    def test_nothing_is_changed(self):
        before, after = table(a='x', b='y'), table(c='x')
        moves_between(before, after)
        self.assertEqual((before, after), (table(a='x', b='y'), table(c='x')))


class FollowedTest(unittest.TestCase):
    def setUp(self):
        self.graph = Graph(Contents())

    def add(self, files, *parents):
        return self.graph.add(Commit(self.graph.contents.put_files(files), parents, 'ann', len(self.graph.commits), ''))

    def test_through_moves(self):
        first = self.add(table(other='q'))
        made = self.add(table(other='q', a='abc'), first)
        same = self.add(table(a='abc'), made)
        moved = self.add(table(d_b='abcx', a_new='zzz'), same)
        last = self.add(table(c='abcxy', a_new='zzz'), moved)
        end = self.add(table(c='abcxyz'), last)
        self.assertEqual(followed(self.graph, end, 'c'),
                         ((end, 'c'), (last, 'c'), (moved, 'd/b'), (same, 'a'), (made, 'a')))
        self.assertEqual(followed(self.graph, moved, 'd/b'), ((moved, 'd/b'), (same, 'a'), (made, 'a')))
        self.assertEqual(followed(self.graph, last, 'a/new'), ((last, 'a/new'), (moved, 'a/new')))
        taken = self.add(table(d_b='abcx', e='abcx'), moved)
        self.assertEqual(followed(self.graph, taken, 'e'), ((taken, 'e'),))
        self.assertEqual(followed(self.graph, first, 'other'), ((first, 'other'),))

    def test_a_path_that_is_kept_is_no_move(self):
        first = self.add(table(a='abc', b='xyz'))
        second = self.add(table(a='xyz', c='abc'), first)
        self.assertEqual(followed(self.graph, second, 'a'), ((second, 'a'), (first, 'a')))
        self.assertEqual(followed(self.graph, second, 'c'), ((second, 'c'),))

    def test_half_is_enough(self):
        first = self.add(table(a='abcd'))
        half = self.add(table(b='abxy'), first)
        self.assertEqual(followed(self.graph, half, 'b'), ((half, 'b'), (first, 'a')))
        less = self.add(table(b='axyz'), first)
        self.assertEqual(followed(self.graph, less, 'b'), ((less, 'b'),))

    def test_first_parents_alone(self):
        first = self.add(table(a='a'))
        one = self.add(table(a='a', b='b'), first)
        other = self.add(table(a='a', c='c'), first)
        join = self.add(table(a='a', b='b', c='c'), one, other)
        self.assertEqual(followed(self.graph, join, 'c'), ((join, 'c'),))
        self.assertEqual(followed(self.graph, join, 'b'), ((join, 'b'), (one, 'b')))
        self.assertEqual(followed(self.graph, join, 'a'), ((join, 'a'), (one, 'a'), (first, 'a')))

    def test_what_is_not_there(self):
        first = self.add(table(a_b='a'))
        for path in ('b', 'a', '', 'a/b/c'):
            self.assertRaises(ContentError, followed, self.graph, first, path)
        self.assertRaises(GraphError, followed, self.graph, 1, 'a/b')


if __name__ == '__main__':
    unittest.main()
