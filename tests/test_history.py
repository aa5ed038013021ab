"""Point 5: joins, picks, reversals, moved lines and logs."""

import unittest

from landstack.contents import Contents
from landstack.errors import ContentError, GraphError
from landstack.graph import Commit, Graph
from landstack.history import base_files, log_lines, merge_commits, merged_files, move_line, pick, reverse


class HistoryCase(unittest.TestCase):
    def setUp(self):
        self.graph = Graph(Contents())

    def add(self, files, parents=(), author='ann', time=0, message='m'):
        tree = self.graph.contents.put_files({path: tuple(lines) for path, lines in files.items()})
        return self.graph.add(Commit(tree, tuple(parents), author, time, message))

    def files(self, number):
        return {path: ''.join(lines) for path, lines in self.graph.files(number).items()}

    def commit_is(self, number, files, *rest):
        self.assertEqual(self.files(number), files)
        self.assertEqual(self.graph.commit(number).shown()[1:], rest)


class JoinTest(HistoryCase):
    def test_one_comes_from_the_other(self):
        first = self.add({'a': 'b'})
        second = self.add({'a': 'bc'}, (first,))
        self.assertEqual(merge_commits(self.graph, first, second, 'bob', 1, 'j'), (second, ()))
        self.assertEqual(merge_commits(self.graph, second, first, 'bob', 1, 'j'), (second, ()))
        self.assertEqual(merge_commits(self.graph, second, second, 'bob', 1, 'j'), (second, ()))
        self.assertEqual(len(self.graph.commits), 2)

    def test_none_comes_from_the_other(self):
        first = self.add({'a': 'bcd', 'e': ''})
        one = self.add({'a': 'xbcd', 'e': ''}, (first,))
        other = self.add({'a': 'bcdy'}, (first,))
        number, conflicts = merge_commits(self.graph, one, other, 'bob', 7, 'join')
        self.assertEqual(conflicts, ())
        self.commit_is(number, {'a': 'xbcdy'}, (one, other), 'bob', 7, 'join')
        self.assertEqual(merge_commits(self.graph, one, other, 'bob', 7, 'join'), (number, ()))

    def test_conflicts(self):
        first = self.add({'a': 'b', 'c': 'd', 'e': 'f'})
        one = self.add({'a': 'x', 'c': 'x', 'e': 'f'}, (first,))
        other = self.add({'a': 'y', 'c': 'y', 'e': 'y'}, (first,))
        many = len(self.graph.commits)
        self.assertEqual(merge_commits(self.graph, one, other, 'bob', 7, 'join'), (None, ('a', 'c')))
        self.assertEqual(len(self.graph.commits), many)
        self.assertEqual(merged_files(self.graph, one, other).conflicts, ('a', 'c'))
        self.assertEqual(merged_files(self.graph, one, other).value['e'], ('y',))

    def test_no_common_base(self):
        one, other = self.add({'a': 'b'}), self.add({'c': 'd'})
        self.assertEqual(base_files(self.graph, one, other), {})
        number, _ = merge_commits(self.graph, one, other, 'bob', 0, 'j')
        self.assertEqual(self.files(number), {'a': 'b', 'c': 'd'})
        self.assertEqual(merge_commits(self.graph, one, self.add({'a': 'c'}), 'bob', 0, 'j'), (None, ('a',)))

    def test_the_latest_of_several_bases(self):
        first = self.add({'a': '1'})
        one, other = self.add({'a': '2'}, (first,)), self.add({'a': '3'}, (first,))
        ours = self.add({'a': '2'}, (one, other))
        theirs = self.add({'a': '3', 'b': ''}, (one, other))
        self.assertEqual(self.graph.bases(ours, theirs), (one, other))
        self.assertEqual(base_files(self.graph, ours, theirs), {'a': ('3',)})
        self.assertEqual(merged_files(self.graph, ours, theirs).value, {'a': ('2',), 'b': ()})

    def test_what_is_refused(self):
        first = self.add({'a': 'b'})
        one, other = self.add({'a': 'c'}, (first,)), self.add({'a': 'b', 'd': ''}, (first,))
        self.assertRaises(GraphError, merge_commits, self.graph, one, 9, 'bob', 0, 'j')
        self.assertRaises(GraphError, merge_commits, self.graph, 9, one, 'bob', 0, 'j')
        self.assertRaises(GraphError, merge_commits, self.graph, one, other, '', 0, 'j')
        self.assertRaises(GraphError, merge_commits, self.graph, one, other, 'bob', 10000000, 'j')
        self.assertRaises(GraphError, merge_commits, self.graph, one, other, 'bob', 0, 'j' * 201)
        self.assertRaises(GraphError, base_files, self.graph, one, 9)
        self.assertRaises(GraphError, merged_files, self.graph, 9, one)
        self.assertEqual(len(self.graph.commits), 3)

    def test_a_merge_that_is_too_long(self):
        lines = [str(place) for place in range(300)]
        first = self.add({'a': lines})
        one = self.add({'a': ['x'] * 150 + lines}, (first,))
        other = self.add({'a': lines + ['y'] * 150}, (first,))
        self.assertRaises(ContentError, merge_commits, self.graph, one, other, 'bob', 0, 'j')
        self.assertEqual(len(self.graph.commits), 3)


class PickTest(HistoryCase):
    def setUp(self):
        super().setUp()
        self.first = self.add({'a': 'bcd', 'k': 'l'})
        self.other = self.add({'a': 'bcd', 'k': 'l', 'n': 'o'}, (self.first,), author='cid')
        self.change = self.add({'a': 'xbcd', 'k': 'l', 'n': 'o'}, (self.other,), author='bob', message='put x')
        self.onto = self.add({'a': 'bcdy', 'z': ''}, (self.first,))

    def test_a_pick(self):
        number, conflicts = pick(self.graph, self.change, self.onto, 'dan', 5)
        self.assertEqual(conflicts, ())
        self.commit_is(number, {'a': 'xbcdy', 'z': ''}, (self.onto,), 'dan', 5, 'put x')

    def test_a_pick_of_a_first_commit(self):
        apart = self.add({'f': 'g'}, message='apart')
        number, _ = pick(self.graph, apart, self.onto, 'dan', 5)
        self.commit_is(number, {'a': 'bcdy', 'z': '', 'f': 'g'}, (self.onto,), 'dan', 5, 'apart')

    def test_a_pick_that_conflicts(self):
        onto = self.add({'a': 'vbcd', 'k': 'l'}, (self.first,))
        many = len(self.graph.commits)
        self.assertEqual(pick(self.graph, self.change, onto, 'dan', 5), (None, ('a',)))
        self.assertEqual(pick(self.graph, self.first, onto, 'dan', 5), (None, ('a',)))
        self.assertEqual(len(self.graph.commits), many)

    def test_a_reversal(self):
        after = self.add({'a': 'xbcdy', 'n': 'o'}, (self.change,))
        number, conflicts = reverse(self.graph, self.change, after, 'dan', 5)
        self.assertEqual(conflicts, ())
        self.commit_is(number, {'a': 'bcdy', 'n': 'o'}, (after,), 'dan', 5, 'not: put x')

    def test_a_reversal_of_a_first_commit(self):
        number, _ = reverse(self.graph, self.first, self.other, 'dan', 5)
        self.commit_is(number, {'n': 'o'}, (self.other,), 'dan', 5, 'not: m')
        self.assertEqual(reverse(self.graph, self.first, self.change, 'dan', 5), (None, ('a',)))

    def test_a_reversal_that_conflicts(self):
        after = self.add({'a': 'vbcd', 'k': 'l', 'n': 'o'}, (self.change,))
        self.assertEqual(reverse(self.graph, self.change, after, 'dan', 5), (None, ('a',)))

    def test_the_message_of_a_reversal_is_cut(self):
        for many, told in ((195, 'not: ' + 'm' * 195), (196, 'not: ' + 'm' * 195), (200, 'not: ' + 'm' * 195)):
            change = self.add({}, (self.change,), message='m' * many)
            number, _ = reverse(self.graph, change, change, 'dan', 5)
            self.assertEqual(self.graph.commit(number).message, told)

    def test_merges_are_refused(self):
        joined, _ = merge_commits(self.graph, self.other, self.add({'a': 'bcd'}, (self.first,)), 'dan', 0, 'j')
        self.assertRaises(GraphError, pick, self.graph, joined, self.onto, 'dan', 5)
        self.assertRaises(GraphError, reverse, self.graph, joined, self.onto, 'dan', 5)
        self.assertEqual(pick(self.graph, self.change, joined, 'dan', 5)[1], ())

    def test_unknown_numbers_and_bad_writers(self):
        for deed in (pick, reverse):
            self.assertRaises(GraphError, deed, self.graph, 9, self.onto, 'dan', 5)
            self.assertRaises(GraphError, deed, self.graph, self.change, 9, 'dan', 5)
            self.assertRaises(GraphError, deed, self.graph, self.change, self.change, 'd n', 5)
            self.assertRaises(GraphError, deed, self.graph, self.change, self.change, 'dan', -1)
        self.assertEqual(len(self.graph.commits), 4)


class MoveLineTest(HistoryCase):
    def setUp(self):
        super().setUp()
        self.first = self.add({'a': 'bcd'})
        self.second = self.add({'a': 'xbcd'}, (self.first,), author='bob', message='two')
        self.third = self.add({'a': 'xbcd', 'e': ''}, (self.second,), author='cid', message='three')

    def test_a_line_is_moved(self):
        onto = self.add({'a': 'bcdy'}, (self.first,))
        end, conflicts = move_line(self.graph, self.third, onto, 9)
        self.assertEqual(conflicts, ())
        before = self.graph.commit(end).parents[0]
        self.commit_is(end, {'a': 'xbcdy', 'e': ''}, (before,), 'cid', 9, 'three')
        self.commit_is(before, {'a': 'xbcdy'}, (onto,), 'bob', 9, 'two')

    def test_nothing_to_move(self):
        self.assertEqual(move_line(self.graph, self.first, self.third, 9), (self.third, ()))
        self.assertEqual(move_line(self.graph, self.third, self.third, 9), (self.third, ()))
        self.assertEqual(len(self.graph.commits), 3)

    def test_a_line_that_has_nothing_in_common(self):
        onto = self.add({'z': ''}, message='apart')
        end, _ = move_line(self.graph, self.third, onto, 9)
        self.assertEqual(self.files(end), {'a': 'xbcd', 'e': '', 'z': ''})
        self.assertEqual([self.graph.commit(number).author for number in self.graph.line(end)],
                         ['cid', 'bob', 'ann', 'ann'])

    def test_conflicts(self):
        onto = self.add({'a': 'vbcd', 'e': 'w'}, (self.first,))
        self.assertEqual(move_line(self.graph, self.third, onto, 9), (None, ('a',)))
        onto = self.add({'a': 'bcd', 'e': 'w'}, (self.first,))
        self.assertEqual(move_line(self.graph, self.third, onto, 9), (None, ('e',)))

    def test_merges_are_refused(self):
        onto = self.add({'a': 'bcdy'}, (self.first,))
        side = self.add({'a': 'bcd', 'f': ''}, (self.first,))
        joined, _ = merge_commits(self.graph, self.third, side, 'dan', 0, 'j')
        after = self.add({}, (joined,))
        many = len(self.graph.commits)
        self.assertRaises(GraphError, move_line, self.graph, joined, onto, 9)
        self.assertRaises(GraphError, move_line, self.graph, after, onto, 9)
        self.assertEqual(len(self.graph.commits), many)
        self.assertEqual(move_line(self.graph, after, joined, 9)[1], ())

    def test_unknown_numbers_and_bad_times(self):
        self.assertRaises(GraphError, move_line, self.graph, 9, self.first, 0)
        self.assertRaises(GraphError, move_line, self.graph, self.third, 9, 0)
        self.assertRaises(GraphError, move_line, self.graph, self.third, self.add({'z': ''}), 10000000)


class LogTest(HistoryCase):
    def test_a_log(self):
        first = self.add({'a': 'b'}, message='one')
        second = self.add({'a': 'b', 'c': ''}, (first,), 'bob', 3, 'two words')
        third = self.add({'a': 'x'}, (first,), 'cid', 4, 'three')
        joined, _ = merge_commits(self.graph, third, second, 'dan', 20, 'join')
        self.assertEqual(log_lines(self.graph, joined),
                         ('3 dan 20 (merge) join', '2 cid 4 three', '1 bob 3 two words', '0 ann 0 one'))
        self.assertEqual(log_lines(self.graph, second), ('1 bob 3 two words', '0 ann 0 one'))

    def test_numbers_are_not_texts(self):
        end = self.add({}, message='0')
        for place in range(1, 12):
            end = self.add({}, (end,), time=place)
        self.assertEqual([line.split(' ')[0] for line in log_lines(self.graph, end)],
                         [str(number) for number in range(11, -1, -1)])

    def test_unknown_numbers(self):
        self.assertRaises(GraphError, log_lines, self.graph, 0)
        self.add({})
        self.assertRaises(GraphError, log_lines, self.graph, -1)
