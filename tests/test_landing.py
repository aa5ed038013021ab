"""Point 9: queues, in which changes are joined, checked and land in order."""

import unittest

from landstack.checks import Job, Plan, Scheduler
from landstack.contents import Contents
from landstack.errors import ReviewError
from landstack.graph import Commit, Graph
from landstack.history import merge_commits
from landstack.landing import Entry, Queue
from landstack.reviews import Change


class QueueCase(unittest.TestCase):
    def setUp(self):
        self.graph = Graph(Contents())
        self.scheduler = Scheduler(Plan([Job('build')]), 9, self.judge)
        self.first = self.add({'a': 'xyz'})
        self.queue = Queue(self.graph, self.first, self.scheduler)
        self.many = 0

    def judge(self, name, tree, tried):
        return not any('!' in lines for lines in self.graph.contents.files(tree).values())

    def add(self, files, *parents, author='ann'):
        tree = self.graph.contents.put_files({path: tuple(lines) for path, lines in files.items()})
        return self.graph.add(Commit(tree, parents, author, 0, 'm'))

    def change(self, files, author='ann', base=None):
        """A queued change, which starts at the first commit."""
        base = self.first if base is None else base
        change = Change(self.many, author, 'main', self.add(files, base, author=author))
        self.many += 1
        self.queue.add(change)
        return change

    def files(self, number):
        return {path: ''.join(lines) for path, lines in self.graph.files(number).items()}

    def numbers(self):
        return [entry.change.number for entry in self.queue.entries]

    def candidates(self):
        return [entry.candidate for entry in self.queue.entries]


class AddTest(QueueCase):
    def test_a_new_queue(self):
        queue = self.queue
        self.assertEqual((queue.graph, queue.head, queue.entries, queue.events, queue.landed),
                         (self.graph, self.first, [], [], []))

    def test_entries_stand_in_order(self):
        changes = [self.change({'a': 'xyz', name: ''}) for name in 'bcd']
        self.assertEqual([entry.change for entry in self.queue.entries], changes)
        self.assertEqual([entry.head for entry in self.queue.entries], [change.head for change in changes])
        self.assertEqual(self.candidates(), [None, None, None])
        self.assertEqual(self.queue.outcome(self.queue.entries[0]), None)

    def test_an_entry_keeps_the_end_that_its_change_had(self):
        change = Change(4, 'ann', 'main', 7)
        entry = Entry(change)
        change.move(8, True)
        self.assertEqual((entry.change, entry.head, entry.candidate), (change, 7, None))

    def test_a_change_that_is_queued(self):
        change = self.change({'b': ''})
        self.assertRaises(ReviewError, self.queue.add, change)
        self.assertRaises(ReviewError, self.queue.add, Change(0, 'bob', 'main', self.first))
        self.assertEqual(self.numbers(), [0])
        self.queue.build(1)
        self.scheduler.tick()
        self.scheduler.tick()
        self.queue.land(self.queue.entries[0], 1)
        self.queue.add(change)
        self.assertEqual(self.numbers(), [0])


class BuildTest(QueueCase):
    def test_changes_are_joined_one_onto_another(self):
        self.queue.head = self.add({'a': 'xyz', 'm': ''}, self.first)
        one, two, three = self.change({'a': '1xyz'}, 'bob'), self.change({'a': 'xyz2'}), self.change({'a': 'x3yz'}, 'cy')
        self.queue.build(5)
        before = self.queue.head
        for entry, change, text in zip(self.queue.entries, (one, two, three), ('1xyz', '1xyz2', '1x3yz2')):
            commit = self.graph.commit(entry.candidate)
            self.assertEqual((commit.parents, commit.author, commit.time, commit.message),
                             ((before, change.head), change.author, 5, f'land {change.number}'))
            self.assertEqual(self.files(entry.candidate), {'a': text, 'm': ''})
            before = entry.candidate
        self.assertEqual(self.scheduler.asked(), [self.graph.commit(number).tree for number in self.candidates()])
        self.assertEqual(self.queue.events, [])

    def test_as_many_as_the_depth(self):
        for depth in (1, 2, 3):
            self.queue = Queue(self.graph, self.first, self.scheduler, depth)
            for name in 'bcde':
                self.change({'a': 'xyz', name: ''})
            self.queue.build(1)
            self.assertEqual([number is None for number in self.candidates()], [False] * depth + [True] * (4 - depth))
            self.assertIsNone(self.queue.outcome(self.queue.entries[3]))

    def test_one_that_comes_from_the_end_is_that_one(self):
        change = self.change({'a': 'q'})
        self.queue.build(1)
        self.assertEqual(self.candidates(), [change.head])
        self.queue.head = self.add({'a': 'r'}, change.head)
        self.queue.build(1)
        self.assertEqual(self.candidates(), [self.queue.head])

    def test_what_goes_out(self):
        dropped, moved, conflict = self.change({'a': '0xyz'}), self.change({'a': '1xyz'}), self.change({'a': 'qqq'})
        good = [self.change({'a': 'xyz', name: ''}) for name in 'bcde']
        self.queue.head = self.add({'a': 'xy'}, self.first)
        dropped.state_to('dropped')
        moved.move(good[0].head, True)
        self.queue.build(3)
        self.assertEqual(self.queue.events, [(3, 'moved', 0), (3, 'moved', 1), (3, 'conflict', 2)])
        self.assertEqual(self.numbers(), [3, 4, 5, 6])
        self.assertEqual([number is None for number in self.candidates()], [False, False, False, True])
        self.assertEqual((conflict.state, moved.state), ('open', 'open'))
        self.assertEqual(self.queue.landed, [])

    def test_only_its_turn_lets_a_change_go_out(self):
        changes = [self.change({'a': 'xyz', name: ''}) for name in 'bcde']
        changes[3].state_to('dropped')
        self.queue.build(1)
        self.assertEqual((self.numbers(), self.queue.events), ([0, 1, 2, 3], []))
        changes[0].state_to('dropped')
        self.queue.build(2)
        self.assertEqual((self.numbers(), self.queue.events), ([1, 2], [(2, 'moved', 0), (2, 'moved', 3)]))

    def test_a_change_that_was_moved_to_and_fro_stays(self):
        change = self.change({'a': 'q'})
        head = change.head
        change.move(self.first, True)
        change.move(head, True)
        self.queue.build(1)
        self.assertEqual(self.numbers(), [0])

    def test_a_conflict_with_one_ahead(self):
        self.change({'a': '1yz'})
        self.change({'a': '2yz'})
        self.change({'a': 'xy3'})
        self.queue.build(1)
        self.assertEqual((self.numbers(), self.queue.events), ([0, 2], [(1, 'conflict', 1)]))
        self.assertEqual(self.files(self.candidates()[1]), {'a': '1y3'})

    def test_too_long_a_text(self):
        base = self.first = self.add({'a': ['x'] * 300})
        self.queue.head = self.add({'a': ['y'] * 100 + ['x'] * 300}, base)
        self.change({'a': ['x'] * 300 + ['z'] * 101})
        self.change({'a': ['x'] * 300 + ['z'] * 100})
        self.queue.build(4)
        self.assertEqual((self.numbers(), self.queue.events), ([1], [(4, 'conflict', 0)]))
        self.assertEqual(len(self.graph.files(self.candidates()[0])['a']), 500)

    def test_what_stands_on_its_end_stays(self):
        self.queue.head = self.add({'a': 'xyz', 'm': ''}, self.first)
        changes = [self.change({'a': 'xyz', name: ''}) for name in 'bcd']
        self.queue.build(1)
        found = self.candidates()
        self.queue.build(2)
        self.assertEqual(self.candidates(), found)
        changes[1].state_to('dropped')
        self.queue.build(3)
        self.assertEqual(self.candidates()[0], found[0])
        last = self.graph.commit(self.candidates()[1])
        self.assertEqual((last.parents, last.time), ((found[0], changes[2].head), 3))
        self.assertEqual(self.files(self.candidates()[1]), {'a': 'xyz', 'm': '', 'b': '', 'd': ''})


class LandTest(QueueCase):
    def test_what_came_of_the_checks(self):
        self.change({'a': 'xyz', 'b': ''})
        self.change({'a': 'xyz', 'c': '!'})
        self.queue.build(1)
        entries = list(self.queue.entries)
        self.assertEqual([self.queue.outcome(entry) for entry in entries], [None, None])
        self.scheduler.tick()
        self.assertEqual([self.queue.outcome(entry) for entry in entries], [None, None])
        self.scheduler.tick()
        self.assertEqual([self.queue.outcome(entry) for entry in entries], ['passed', 'failed'])

    def test_landing(self):
        change = self.change({'a': 'q'})
        other = self.change({'a': 'xyz', 'b': ''})
        self.queue.build(1)
        one, two = list(self.queue.entries)
        self.queue.land(one, 7)
        self.assertEqual((self.queue.head, change.state, self.numbers()), (change.head, 'landed', [1]))
        self.queue.land(two, 8)
        self.assertEqual((self.queue.head, other.state, self.numbers()), (two.candidate, 'landed', []))
        self.assertEqual(self.queue.events, [(7, 'landed', 0), (8, 'landed', 1)])
        self.assertEqual(self.queue.landed, [(0, change.head, change.head), (1, other.head, two.candidate)])
        self.assertEqual(merge_commits(self.graph, change.head, other.head, 'ann', 1, 'land 1'), (two.candidate, ()))

    def test_a_change_that_is_not_open_does_not_land(self):
        change = self.change({'a': 'q'})
        self.queue.build(1)
        change.state_to('dropped')
        self.assertRaises(ReviewError, self.queue.land, self.queue.entries[0], 2)
        self.assertEqual((self.queue.head, self.queue.events, self.queue.landed, self.numbers()),
                         (self.first, [], [], [0]))


if __name__ == '__main__':
    unittest.main()
