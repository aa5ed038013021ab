"""Point 18: issues, their steps, what they wait for, and in which order they can be done."""

import itertools
import random
import unittest

from landstack.errors import IssueError
from landstack.issues import STATES_OF_ISSUES, Issue, Tracker

STEPS = {('open', 'doing'), ('doing', 'open'), ('doing', 'review'), ('review', 'doing'), ('review', 'done'),
         ('open', 'dropped'), ('doing', 'dropped'), ('done', 'open'), ('dropped', 'open')}
WAYS = {'open': (), 'doing': ('doing',), 'review': ('doing', 'review'), 'done': ('doing', 'review', 'done'),
        'dropped': ('dropped',)}


class IssueCase(unittest.TestCase):
    def setUp(self):
        self.tracker = Tracker()

    def add(self, many):
        for number in range(many):
            self.tracker.add('ann', f'issue {number}')

    def bring(self, number, state):
        """Bring an open issue into a state, whatever it waits for."""
        self.tracker.give('ann', number, 'bob')
        for one in WAYS[state]:
            self.tracker.step('ann', number, one)

    def told(self):
        rows = [self.tracker.issue(number).shown() for number in range(1, len(self.tracker.issues) + 1)]
        return rows, list(self.tracker.events), self.tracker.time

    def refused(self, call, *values):
        before = self.told()
        self.assertRaises(IssueError, call, *values)
        self.assertEqual(self.told(), before)


class DeedTest(IssueCase):
    def test_an_issue(self):
        one = Issue(4, 'what', 'ann')
        self.assertEqual(one.shown(), (4, 'what', 'ann', None, 'open', (), ()))
        self.assertEqual((one.number, one.author, one.state, one.labels), (4, 'ann', 'open', []))
        self.assertEqual(STATES_OF_ISSUES, ('open', 'doing', 'review', 'done', 'dropped'))

    def test_events_with_their_times(self):
        tracker = self.tracker
        self.assertEqual((tracker.events, tracker.time), ([], 0))
        self.assertEqual(tracker.add('ann', 'one'), 1)
        self.assertEqual(tracker.add('bob', 'two'), 2)
        tracker.give('ann', 2, 'cy')
        tracker.label('eve', 2, 'bug')
        tracker.label('eve', 2, 'bug')
        tracker.wait('bob', 1, 2)
        tracker.step('cy', 2, 'doing')
        tracker.give('ann', 2, None)
        tracker.note('me', 7, 'word', ('rest',))
        self.assertEqual(tracker.events, [
            (1, 'ann', 1, 'add', 'one'), (2, 'bob', 2, 'add', 'two'), (3, 'ann', 2, 'give', 'cy'),
            (4, 'eve', 2, 'label', 'bug'), (5, 'eve', 2, 'label', 'bug'), (6, 'bob', 1, 'wait', 2),
            (7, 'cy', 2, 'step', 'doing'), (8, 'ann', 2, 'give', None), (9, 'me', 7, 'word', ('rest',))])
        self.assertEqual(tracker.time, 9)
        self.assertEqual(tracker.issue(1).shown(), (1, 'one', 'ann', None, 'open', (), (2,)))
        self.assertEqual(tracker.issue(2).shown(), (2, 'two', 'bob', None, 'doing', (), ()))

    def test_titles(self):
        for title in ('', 'x' * 81):
            self.refused(self.tracker.add, 'ann', title)
        self.assertEqual([self.tracker.add('ann', 'x'), self.tracker.add('ann', 'y' * 80)], [1, 2])

    def test_unknown_issues(self):
        self.add(2)
        tracker = self.tracker
        for number in (0, 3, -1):
            for call, values in [(tracker.issue, (number,)), (tracker.give, ('ann', number, 'bob')),
                                 (tracker.step, ('ann', number, 'dropped')), (tracker.label, ('ann', number, 'x')),
                                 (tracker.wait, ('ann', number, 1)), (tracker.wait, ('ann', 1, number)),
                                 (tracker.all_waits, (number,)), (tracker.held_by, (number,))]:
                self.refused(call, *values)

    def test_each_step_that_is_one_and_each_that_is_none(self):
        for state, other in itertools.product(STATES_OF_ISSUES, (*STATES_OF_ISSUES, 'closed', '')):
            with self.subTest(state=state, other=other):
                self.tracker = Tracker()
                self.add(1)
                self.bring(1, state)
                if (state, other) in STEPS:
                    self.tracker.step('ann', 1, other)
                    self.assertEqual(self.tracker.issue(1).state, other)
                    self.assertEqual(self.tracker.events[-1][1:], ('ann', 1, 'step', other))
                else:
                    self.refused(self.tracker.step, 'ann', 1, other)

    def test_doing_needs_a_doer(self):
        self.add(1)
        self.refused(self.tracker.step, 'ann', 1, 'doing')
        self.tracker.give('ann', 1, 'bob')
        self.tracker.give('ann', 1, None)
        self.refused(self.tracker.step, 'ann', 1, 'doing')
        self.tracker.give('ann', 1, 'bob')
        self.tracker.step('ann', 1, 'doing')
        self.tracker.step('bob', 1, 'review')
        self.tracker.give('ann', 1, None)
        self.refused(self.tracker.step, 'ann', 1, 'doing')

    def test_doing_waits_for_what_is_not_over(self):
        self.add(3)
        self.tracker.wait('ann', 1, 2)
        self.tracker.wait('ann', 1, 3)
        self.tracker.give('ann', 1, 'bob')
        self.refused(self.tracker.step, 'bob', 1, 'doing')
        self.bring(2, 'done')
        self.refused(self.tracker.step, 'bob', 1, 'doing')
        self.bring(3, 'dropped')
        self.tracker.step('bob', 1, 'doing')
        # What was begun goes on, but is not begun anew.
        self.tracker.step('ann', 2, 'open')
        self.tracker.step('bob', 1, 'review')
        self.refused(self.tracker.step, 'bob', 1, 'doing')

    def test_what_waits_may_be_dropped(self):
        self.add(2)
        self.tracker.wait('ann', 1, 2)
        self.tracker.step('ann', 1, 'dropped')
        self.assertEqual(self.tracker.issue(1).state, 'dropped')

    def test_done_by_another_one_than_the_doer(self):
        self.add(1)
        self.bring(1, 'review')
        self.refused(self.tracker.step, 'bob', 1, 'done')
        self.tracker.step('ann', 1, 'done')
        self.tracker.step('bob', 1, 'open')
        self.bring(1, 'review')
        # The doer then counts, also nobody.
        self.tracker.give('ann', 1, None)
        self.tracker.step('bob', 1, 'done')

    def test_giving_what_is_over(self):
        self.add(2)
        self.bring(1, 'done')
        self.bring(2, 'dropped')
        for number, doer in itertools.product((1, 2), ('cy', None)):
            self.refused(self.tracker.give, 'ann', number, doer)
        self.assertEqual(self.tracker.issue(1).shown()[3], 'bob')
        for number in (1, 2):
            self.tracker.step('ann', number, 'open')
            self.tracker.give('ann', number, None)
            self.assertIsNone(self.tracker.issue(number).shown()[3])

    def test_labels(self):
        self.add(1)
        for label in ('', 'x' * 21, 'two words', ' x', ' '):
            self.refused(self.tracker.label, 'ann', 1, label)
        for label in ('x' * 20, 'b', 'A'):
            self.tracker.label('ann', 1, label)
        self.assertEqual(self.tracker.issue(1).shown()[5], ('A', 'b', 'x' * 20))
        self.tracker.label('ann', 1, 'b')
        self.assertEqual(self.tracker.issue(1).labels, ['A', 'x' * 20])

    def test_the_tenth_and_the_eleventh_label(self):
        self.add(1)
        for number in range(10):
            self.tracker.label('ann', 1, f'l{number}')
        self.refused(self.tracker.label, 'ann', 1, 'more')
        self.tracker.label('ann', 1, 'l3')
        self.tracker.label('ann', 1, 'more')
        self.refused(self.tracker.label, 'ann', 1, 'l3')
        self.assertEqual(len(self.tracker.issue(1).labels), 10)

    def test_labels_and_waits_are_shown_ascending(self):
        self.add(12)
        for number in (11, 2, 9):
            self.tracker.wait('ann', 1, number)
            self.tracker.label('ann', 1, f'l{number}')
        self.assertEqual(self.tracker.issue(1).shown()[5:], (('l11', 'l2', 'l9'), (2, 9, 11)))


class WaitTest(IssueCase):
    def wait(self, *rows):
        for number, other in rows:
            self.tracker.wait('ann', number, other)

    def test_rings_and_what_waits_already(self):
        self.add(4)
        self.wait((1, 2), (2, 3))
        for number, other in [(1, 1), (1, 2), (2, 1), (3, 1), (3, 2)]:
            self.refused(self.tracker.wait, 'ann', number, other)
        self.wait((1, 3), (4, 1))
        self.refused(self.tracker.wait, 'ann', 3, 4)

    def test_what_is_begun_or_over_cannot_wait(self):
        for state in STATES_OF_ISSUES:
            self.tracker = Tracker()
            self.add(2)
            self.bring(1, state)
            if state == 'open':
                self.tracker.wait('ann', 1, 2)
            else:
                self.refused(self.tracker.wait, 'ann', 1, 2)
            # It may be waited for, however far it is.
            if state != 'open':
                self.tracker.wait('ann', 2, 1)
                self.assertEqual(self.tracker.all_waits(2), (1,))

    def test_all_waits_and_held_by(self):
        self.add(6)
        self.wait((6, 5), (5, 3), (6, 2), (3, 1), (2, 1))
        self.assertEqual(self.tracker.all_waits(6), (1, 2, 3, 5))
        self.assertEqual(self.tracker.all_waits(5), (1, 3))
        self.assertEqual(self.tracker.all_waits(1), ())
        self.assertEqual(self.tracker.held_by(6), (2, 5))
        self.bring(1, 'done')
        self.bring(2, 'dropped')
        self.bring(3, 'review')
        self.assertEqual(self.tracker.held_by(6), (5,))
        self.assertEqual(self.tracker.held_by(5), (3,))
        self.assertEqual(self.tracker.held_by(3), ())
        self.assertEqual(self.tracker.all_waits(6), (1, 2, 3, 5))

    def test_ready_tells_first_what_holds_up_most(self):
        self.assertEqual(self.tracker.ready(), ())
        self.add(7)
        self.assertEqual(self.tracker.ready(), (1, 2, 3, 4, 5, 6, 7))
        self.wait((1, 5), (2, 1), (3, 6), (4, 7))
        # By others too: 5 holds up 1 and 2.
        self.assertEqual(self.tracker.ready(), (5, 6, 7))
        self.wait((4, 6))
        self.assertEqual(self.tracker.ready(), (5, 6, 7))
        self.wait((7, 6))
        self.assertEqual(self.tracker.ready(), (6, 5))

    def test_ready_counts_what_is_over(self):
        self.add(6)
        self.wait((3, 2), (4, 2), (5, 1), (5, 2))
        self.tracker.step('ann', 3, 'dropped')
        self.tracker.step('ann', 4, 'dropped')
        self.assertEqual(self.tracker.ready(), (2, 1, 6))
        self.bring(2, 'done')
        self.assertEqual(self.tracker.ready(), (1, 6))
        self.bring(1, 'doing')
        self.assertEqual(self.tracker.ready(), (6,))
        self.tracker.step('ann', 1, 'dropped')
        self.assertEqual(self.tracker.ready(), (5, 6))

    def test_the_board(self):
        self.assertEqual(self.tracker.board(), tuple((state, ()) for state in STATES_OF_ISSUES))
        self.add(11)
        for number, state in [(2, 'done'), (10, 'doing'), (3, 'doing'), (7, 'dropped'), (1, 'done')]:
            self.bring(number, state)
        self.assertEqual(self.tracker.board(), (('open', (4, 5, 6, 8, 9, 11)), ('doing', (3, 10)), ('review', ()),
                                                ('done', (1, 2)), ('dropped', (7,))))

    def test_the_longest_row(self):
        self.assertEqual(self.tracker.long_row(), ())
        self.add(9)
        self.assertEqual(self.tracker.long_row(), (1,))
        self.wait((3, 5), (9, 8))
        self.assertEqual(self.tracker.long_row(), (5, 3))
        self.wait((8, 7))
        self.assertEqual(self.tracker.long_row(), (7, 8, 9))
        self.wait((2, 5), (1, 3), (1, 2))
        self.assertEqual(self.tracker.long_row(), (5, 2, 1))
        self.bring(5, 'done')
        self.assertEqual(self.tracker.long_row(), (7, 8, 9))

    def test_the_longest_row_leaves_out_what_is_over(self):
        self.add(4)
        self.wait((1, 2), (2, 3), (3, 4))
        self.tracker.step('ann', 2, 'dropped')
        self.assertEqual(self.tracker.long_row(), (4, 3))
        self.bring(4, 'review')
        self.assertEqual(self.tracker.long_row(), (4, 3))
        for number in (3, 1):
            self.tracker.step('ann', number, 'dropped')
        self.tracker.step('ann', 4, 'done')
        self.assertEqual(self.tracker.long_row(), ())

    def test_an_order_of_all(self):
        self.assertEqual(self.tracker.in_order(), [])
        self.add(6)
        self.assertEqual(self.tracker.in_order(), [1, 2, 3, 4, 5, 6])
        self.wait((1, 6), (2, 4), (6, 3))
        self.assertEqual(self.tracker.in_order(), [3, 4, 2, 5, 6, 1])
        self.bring(3, 'done')
        self.assertEqual(self.tracker.in_order(), [3, 4, 2, 5, 6, 1])

    def test_many_drawn_trackers(self):
        drawn = random.Random(5)
        for _ in range(40):
            self.tracker = tracker = Tracker()
            many = drawn.randrange(1, 7)
            self.add(many)
            numbers = range(1, many + 1)
            for number, other in itertools.product(numbers, numbers):
                if drawn.random() < 0.3:
                    try:
                        tracker.wait('ann', number, other)
                    except IssueError:
                        pass
            for number in numbers:
                if drawn.random() < 0.2:
                    tracker.step('ann', number, 'dropped')
            waits = {number: tracker.issue(number).shown()[6] for number in numbers}
            left = [number for number in numbers if tracker.issue(number).state == 'open']
            rows = [row for size in range(1, many + 1) for row in itertools.permutations(left, size)
                    if all(one in waits[other] for one, other in zip(row, row[1:]))]
            self.assertEqual(tracker.long_row(), min(rows, key=lambda row: (-len(row), row), default=()))
            orders = [row for row in itertools.permutations(numbers)
                      if all(row.index(other) < row.index(number) for number in numbers for other in waits[number])]
            self.assertEqual(tracker.in_order(), list(min(orders)))


if __name__ == '__main__':
    unittest.main()
