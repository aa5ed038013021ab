"""Point 6: packs, their readers and clones."""

import unittest

from landstack.contents import Contents
from landstack.errors import GraphError, PatchError
from landstack.graph import Commit, Graph
from landstack.packs import FIRST, Clone, PackReader, number_of, pack_lines


def add(graph, files, parents=(), author='ann', time=0, message='m'):
    tree = graph.contents.put_files({path: tuple(lines) for path, lines in files.items()})
    return graph.add(Commit(tree, tuple(parents), author, time, message))


def told(graph, number):
    """A commit without the numbers of a graph, and so all that it comes from."""
    commit = graph.commit(number)
    return (graph.files(number), tuple(told(graph, parent) for parent in commit.parents), commit.author, commit.time,
            commit.message)


class PackCase(unittest.TestCase):
    def setUp(self):
        self.graph = Graph(Contents())
        add(self.graph, {'other': ['x']}, message='not packed')
        self.first = add(self.graph, {'b/c': ['one', '', ' two'], 'a': [], 'b-c': ['end']}, time=3, message='begin it')
        self.one = add(self.graph, {'a': ['commit x 1']}, [self.first], 'bob', 9999999, '')
        self.two = add(self.graph, {'a': []}, [self.first], 'ann', 7, 'message end')
        self.join = add(self.graph, {'a': ['y']}, [self.two, self.one], 'cy', 8, 'j')
        self.all = (self.first, self.one, self.two, self.join)

    def read(self, lines, known=None, graph=None):
        return PackReader(tuple(lines), graph or Graph(Contents()), known or {}).read_all()


class LinesTest(PackCase):
    def test_the_first_line(self):
        self.assertEqual(FIRST, '#commits')
        self.assertEqual(pack_lines(self.graph, ()), ('#commits',))

    def test_all_lines_in_order(self):
        self.assertEqual(pack_lines(self.graph, self.all), (
            '#commits',
            'commit ann 3', 'message begin it', 'file a 0', 'file b-c 1', ' end', 'file b/c 3', ' one', ' ', '  two', 'end',
            'commit bob 9999999', 'parent @0', 'message ', 'file a 1', ' commit x 1', 'end',
            'commit ann 7', 'parent @0', 'message message end', 'file a 0', 'end',
            'commit cy 8', 'parent @2', 'parent @1', 'message j', 'file a 1', ' y', 'end'))

    def test_parents_stand_first(self):
        self.assertEqual(pack_lines(self.graph, (self.join, self.two, self.one, self.first)),
                         pack_lines(self.graph, self.all))

    def test_parents_that_are_not_packed(self):
        lines = pack_lines(self.graph, [self.two, self.join])
        self.assertEqual([line for line in lines if line.startswith('parent')],
                         [f'parent ={self.first}', 'parent @0', f'parent ={self.one}'])

    def test_unknown_commits(self):
        self.assertRaises(GraphError, pack_lines, self.graph, (self.first, 99))


class ReadTest(PackCase):
    def test_commits_are_the_same_with_new_numbers(self):
        other = Graph(Contents())
        numbers = self.read(pack_lines(self.graph, self.all), graph=other)
        self.assertEqual(numbers, (0, 1, 2, 3))
        for number, here in zip(self.all, numbers):
            self.assertEqual(told(other, here), told(self.graph, number))
        self.assertEqual(other.commit(3).parents, (2, 1))

    def test_reading_again_keeps_nothing_anew(self):
        other = Graph(Contents())
        lines = pack_lines(self.graph, self.all)
        reader = PackReader(lines, other, {})
        self.assertEqual(reader.read_all(), reader.read_all())
        self.assertEqual(self.read(lines, graph=other), (0, 1, 2, 3))
        self.assertEqual(len(other.commits), 4)

    def test_known_parents(self):
        other = Graph(Contents())
        add(other, {'x': []})
        add(other, {'y': []})
        known = {self.first: 1, self.one: 0}
        two, join = self.read(pack_lines(self.graph, [self.two, self.join]), known, other)
        self.assertEqual(other.commit(two).parents, (1,))
        self.assertEqual(other.commit(join).parents, (two, 0))
        self.assertEqual(known, {self.first: 1, self.one: 0})

    def test_unknown_parents(self):
        lines = pack_lines(self.graph, [self.two, self.join])
        self.assertRaises(PatchError, self.read, lines)
        self.assertRaises(PatchError, self.read, lines, {self.one: 0})
        self.assertRaises(PatchError, self.read, lines, {self.first: 0, self.one: 1})
        begin = ['#commits', 'commit ann 0', 'message m', 'end', 'commit ann 1']
        self.assertEqual(self.read(begin + ['parent @0', 'message m', 'end']), (0, 1))
        for parent in ['@1', '@2', '0', '=0', '', '@', '=', '@00', '@-1', '@ 0', '@0 ', '@00000000']:
            with self.subTest(parent):
                self.assertRaises(PatchError, self.read, begin + ['parent ' + parent, 'message m', 'end'])
        other = Graph(Contents())
        known = {0: add(other, {'x': []}), 1: add(other, {'y': []})}
        self.assertEqual(self.read(begin + ['parent =1', 'message m', 'end'], known, other), (2, 3))
        for parent in ['@1', '@2', '0', '-1', '1', ' 1', '==1', '=2', '=01']:
            with self.subTest(parent):
                self.assertRaises(PatchError, self.read, begin + ['parent ' + parent, 'message m', 'end'], known, other)

    def test_no_commits(self):
        self.assertEqual(self.read(['#commits']), ())

    def test_lines_that_look_like_others(self):
        texts = ['end', 'commit ann 0', 'parent @0', 'file a 1', '#commits', ' ', '', 'message m']
        other = Graph(Contents())
        number = add(self.graph, {'a': texts, 'end': texts}, [self.first], 'commit', 1, 'parent @0')
        for text in texts:
            number = add(self.graph, {}, [number], 'end', 1, text)
        lines = pack_lines(self.graph, self.graph.ancestors(number))
        found = self.read(lines, graph=other)
        self.assertEqual(told(other, found[-1]), told(self.graph, number))

    def test_lost_lines(self):
        lines = pack_lines(self.graph, self.all)
        # Without its second parent a merge is another commit, and so is a commit whose only parent is lost.
        for place in [place for place, line in enumerate(lines) if not line.startswith('parent')]:
            rest = lines[:place] + lines[place + 1:]
            if lines[place].startswith('file') and lines[place].endswith(' 0'):
                self.assertEqual(len(self.read(rest)), 4)
            else:
                with self.subTest(lines[place]):
                    self.assertRaises(PatchError, self.read, rest)
        for many in range(len(lines)):
            if many == 0 or lines[many - 1] not in ('end', '#commits'):
                with self.subTest(many):
                    self.assertRaises(PatchError, self.read, lines[:many])

    def test_exchanged_lines(self):
        lines = ['#commits', 'commit ann 0', 'message m', 'file a 1', ' x', 'end',
                 'commit ann 1', 'parent @0', 'message m', 'end']
        self.assertEqual(self.read(lines), (0, 1))
        for place in range(len(lines) - 1):
            with self.subTest(lines[place]):
                changed = lines[:place] + [lines[place + 1], lines[place]] + lines[place + 2:]
                self.assertRaises(PatchError, self.read, changed)

    def test_no_packs(self):
        begin = ['#commits', 'commit ann 0', 'message m']
        self.assertEqual(self.read(begin + ['file a 1', ' x', 'end']), (0,))
        for lines in [[], [''], ['#commits '], ['commits'], ['#commits', ''], ['#commits', 'end'],
                      begin + ['end', ''], begin + ['end', 'end'], begin + ['end '],
                      begin + ['file a 2', ' x', 'end'], begin + ['file a 1', 'x', 'end'],
                      begin + ['file a 01', ' x', 'end'], begin + ['file a', ' x', 'end'],
                      begin + ['file a 1 1', ' x', 'end'], begin + ['file  a 1', ' x', 'end'],
                      begin + ['file a 1', ' x', 'file a 1', ' x', 'end'], begin + ['parent @0', 'end'],
                      ['#commits', 'commit ann 00', 'message m', 'end'], ['#commits', 'commit ann', 'message m', 'end'],
                      ['#commits', 'commit ann x', 'message m', 'end'], ['#commits', 'commit a b 0', 'message m', 'end'],
                      ['#commits', 'Commit ann 0', 'message m', 'end'],
                      ['#commits', 'commit ann 0', 'message', 'end']]:
            with self.subTest(lines):
                self.assertRaises(PatchError, self.read, lines)

    def test_commits_that_cannot_be_kept(self):
        end = ['message m', 'end']
        for lines in [['commit  0', *end], ['commit ann 10000000', *end], ['commit ann -1', *end],
                      ['commit ann 0', 'message ' + 'm' * 201, 'end'],
                      ['commit ann 0', 'message m', 'file a/../b 0', 'end'],
                      ['commit ann 0', 'message m', 'file a 0', 'file a/b 0', 'end'],
                      ['commit ann 0', 'message m', 'file a 501', *[' '] * 501, 'end'],
                      ['commit ann 0', *end, 'commit ann 1', 'parent @0', 'parent @0', *end],
                      ['commit ann 0', *end, 'commit ann 1', *end, 'commit ann 2', *end,
                       'commit ann 3', 'parent @0', 'parent @1', 'parent @2', *end]]:
            with self.subTest(lines):
                self.assertRaises(PatchError, self.read, ['#commits', *lines])
        self.assertEqual(self.read(['#commits', 'commit ann 9999999', 'message ' + 'm' * 200, 'file a 500', *[' '] * 500,
                                    'end']), (0,))

    def test_fields(self):
        graph, known = Graph(Contents()), {1: 0}
        reader = PackReader(('#commits',), graph, known)
        self.assertEqual((reader.lines, reader.graph, reader.known), (('#commits',), graph, known))


class NumberTest(unittest.TestCase):
    def test_numbers(self):
        for text, number in [('0', 0), ('7', 7), ('10', 10), ('1234567', 1234567), ('9999999', 9999999)]:
            self.assertEqual(number_of(text), number)

    def test_no_numbers(self):
        for text in ['', '00', '01', '0000001', '12345678', '00000000', '-1', '+1', '1 ', ' 1', 'a', '1.0', '1_0']:
            with self.subTest(text):
                self.assertRaises(PatchError, number_of, text)


class CloneTest(PackCase):
    def setUp(self):
        super().setUp()
        self.clone = Clone()

    def test_a_new_clone(self):
        self.assertEqual((self.clone.graph.commits, self.clone.head, self.clone.known), ([], None, {}))
        self.assertRaises(GraphError, self.clone.push, self.graph)

    def test_fetched_commits_are_there(self):
        number = self.clone.fetch(self.graph, self.join)
        self.assertEqual(told(self.clone.graph, number), told(self.graph, self.join))
        self.assertEqual(self.clone.known, {self.first: 0, self.one: 1, self.two: 2, self.join: 3})
        self.assertEqual(number, 3)
        self.assertIsNone(self.clone.head)
        self.assertEqual(self.clone.fetch(self.graph, self.one), 1)
        self.assertEqual(len(self.clone.graph.commits), 4)

    def test_what_grew_since_is_fetched(self):
        self.clone.fetch(self.graph, self.one)
        more = add(self.graph, {'new': ['z']}, [self.join])
        number = self.clone.fetch(self.graph, more)
        self.assertEqual(told(self.clone.graph, number), told(self.graph, more))
        self.assertEqual(self.clone.known[more], number)
        self.assertEqual(len(self.clone.graph.commits), 5)

    def test_unknown_commits_are_not_fetched(self):
        self.clone.fetch(self.graph, self.one)
        known = dict(self.clone.known)
        self.assertRaises(GraphError, self.clone.fetch, self.graph, 99)
        self.assertEqual(self.clone.known, known)

    def test_what_is_pushed_is_there(self):
        add(self.clone.graph, {'mine': []}, message='never pushed')
        base = self.clone.fetch(self.graph, self.one)
        mine = add(self.clone.graph, {'a': ['mine']}, [base], 'dan', 5, 'mine')
        last = add(self.clone.graph, {'a': ['last']}, [mine], 'dan', 6, 'last')
        self.clone.end_at(last)
        self.assertEqual(self.clone.head, last)
        many = len(self.graph.commits)
        number = self.clone.push(self.graph)
        self.assertEqual(told(self.graph, number), told(self.clone.graph, last))
        self.assertEqual(self.graph.commit(self.graph.commit(number).parents[0]).parents, (self.one,))
        self.assertEqual(len(self.graph.commits), many + 2)
        self.assertEqual(self.clone.known[number], last)
        self.assertEqual(self.clone.push(self.graph), number)
        self.assertEqual(self.clone.fetch(self.graph, number), last)
        self.assertEqual(len(self.graph.commits), many + 2)
        self.assertEqual(len(self.clone.graph.commits), 5)

    def test_pushing_to_and_fro(self):
        other = Clone()
        self.clone.end_at(add(self.clone.graph, {'a': ['1']}))
        there = self.clone.push(self.graph)
        base = other.fetch(self.graph, there)
        other.end_at(add(other.graph, {'a': ['2']}, [base], 'bob'))
        end = other.push(self.graph)
        self.assertEqual(self.clone.fetch(self.graph, end), 1)
        self.assertEqual(told(self.clone.graph, 1), told(other.graph, other.head))

    def test_what_is_there_already_is_pushed_once(self):
        self.clone.end_at(add(self.clone.graph, {'other': ['x']}, message='not packed'))
        many = len(self.graph.commits)
        self.assertEqual(self.clone.push(self.graph), 0)
        self.assertEqual(len(self.graph.commits), many)

    def test_no_such_end(self):
        self.clone.end_at(5)
        self.assertRaises(GraphError, self.clone.push, self.graph)


if __name__ == '__main__':
    unittest.main()
