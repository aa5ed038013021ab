"""Point 27: the studio, whose changes carry talks and tests, and whose branches have releases."""

import copy
import unittest

from landstack.checks import Job, Plan, Scheduler
from landstack.errors import GraphError, HostError, ReviewError, RightError, VersionError
from landstack.host import Host
from landstack.reviews import Rules
from landstack.studio import FIRST_VERSION, Studio


class StudioCase(unittest.TestCase):
    def setUp(self):
        self.host = Host(Scheduler(Plan([Job('build')]), 2, self.judge), 'root')
        for name, right in [('ann', 'write'), ('bob', 'write'), ('cy', 'read'), ('dee', 'read')]:
            self.host.allow('root', name, right)
        self.first = self.commit({'a': 'abc', 'd/e': '12'})
        for branch in ('main', 'rc', 'free'):
            self.host.make_branch('root', branch, self.first)
        for branch in ('main', 'rc'):
            self.host.guard('root', branch, Rules(0))
        self.studio = Studio(self.host)

    def judge(self, name, tree, tried):
        return not any('!' in lines for lines in self.host.graph.contents.files(tree).values())

    def commit(self, files, *parents, name='ann', message='m'):
        return self.host.commit(name, {path: tuple(lines) for path, lines in files.items()}, parents, message)

    def change(self, files, message='m', branch='main', name='ann'):
        """A commit behind the first one, which somebody proposes."""
        head = self.commit({'a': 'abc', 'd/e': '12', **files}, self.first, name=name, message=message)
        return self.studio.propose(name, branch, head)

    def tick(self, many=1):
        for _ in range(many):
            self.studio.tick()

    def shown(self):
        host, studio = self.host, self.studio
        queues = {name: (branch.end(), branch.queue and (branch.queue.events, branch.queue.landed, [
            entry.change.number for entry in branch.queue.entries])) for name, branch in host.branches.items()}
        changes = [(change.head, change.state, change.votes, change.remarks) for change in host.changes]
        talks = {number: ({place: anchor.shown() for place, anchor in talk.anchors.items()}, talk.said, talk.settled)
                 for number, talk in studio.talks.items()}
        return copy.deepcopy((queues, changes, host.time, host.rights, talks, studio.trust.rows, studio.landed,
                              studio.suite.tests, studio.versions))

    def refused(self, error, call, *values):
        before = self.shown()
        with self.assertRaises(HostError) as caught:
            call(*values)
        self.assertIs(type(caught.exception), error)
        self.assertEqual(self.shown(), before)


class TalkTest(StudioCase):
    def test_a_new_studio(self):
        self.assertEqual(FIRST_VERSION, (0, 1, 0))
        self.assertIs(self.studio.host, self.host)
        self.assertEqual((self.studio.suite.tests, self.studio.talks, self.studio.landed), ({}, {}, {}))

    def test_changes_are_proposed_as_the_host_does(self):
        self.assertEqual(self.change({'a': 'abcd'}), 0)
        self.assertEqual(self.host.changes[0].author, 'ann')
        self.assertEqual(self.studio.files_of(0), {'a': tuple('abcd'), 'd/e': tuple('12')})
        self.assertEqual(self.studio.talk_of(0).said, {})
        self.refused(RightError, self.studio.propose, 'cy', 'main', self.first)
        self.refused(ReviewError, self.studio.propose, 'ann', 'free', self.first)
        self.refused(GraphError, self.studio.propose, 'ann', 'nothing', self.first)
        self.refused(GraphError, self.studio.propose, 'ann', 'main', 99)

    def test_unknown_changes_and_those_that_were_not_proposed_here(self):
        self.change({'a': 'abcd'})
        there = self.host.propose('ann', 'main', self.first)
        for number in (-1, 7):
            self.refused(ReviewError, self.studio.files_of, number)
            self.refused(ReviewError, self.studio.tests_of, number)
            self.refused(ReviewError, self.studio.note, 'ann', number, 't', True)
            self.refused(ReviewError, self.studio.move, 'ann', number, self.first)
        for number in (-1, 7, there):
            for call, values in [(self.studio.talk_of, (number,)), (self.studio.say, ('ann', number, ('a', 0, 0), 'hm')),
                                 (self.studio.answer, ('ann', number, 0, 'hm')), (self.studio.settle, ('ann', number, 0)),
                                 (self.studio.lacking, (number,)), (self.studio.land, ('ann', number))]:
                self.refused(ReviewError, call, *values)
        self.refused(ReviewError, self.studio.move, 'ann', there, self.first)
        self.assertEqual(self.studio.files_of(there), {'a': tuple('abc'), 'd/e': tuple('12')})

    def test_saying_answering_and_settling(self):
        number = self.change({'a': 'abcd'})
        self.assertEqual(self.studio.say('cy', number, ('a', 1, 3), 'why'), 0)
        self.assertEqual(self.studio.say('bob', number, ('d/e', 0, 0), 'hm'), 1)
        talk = self.studio.talk_of(number)
        self.assertEqual(talk.anchors[0].shown(), ('a', 1, 3, ('b', 'c', 'd'), 'same'))
        self.studio.answer('dee', number, 0, 'so')
        self.assertEqual(talk.said, {0: [('cy', 'why'), ('dee', 'so')], 1: [('bob', 'hm')]})
        self.studio.settle('cy', number, 0)
        self.studio.settle('ann', number, 1)
        self.assertEqual(talk.settled, {0: True, 1: True})
        self.studio.answer('ann', number, 0, 'again')
        self.assertEqual(talk.settled, {0: False, 1: True})

    def test_who_may_not(self):
        number = self.change({'a': 'abcd'})
        self.studio.say('cy', number, ('a', 0, 0), 'why')
        self.studio.answer('bob', number, 0, 'so')
        for name in ('eve', ''):
            self.refused(RightError, self.studio.say, name, number, ('a', 0, 0), 'hm')
            self.refused(RightError, self.studio.answer, name, number, 0, 'hm')
            self.refused(RightError, self.studio.settle, name, number, 0)
            self.refused(RightError, self.studio.say, name, 99, ('a', 0, 0), 'hm')
        # Whoever answered, and an admin, may not settle it.
        for name in ('bob', 'dee', 'root'):
            self.refused(ReviewError, self.studio.settle, name, number, 0)
        self.host.allow('root', 'cy', None)
        self.refused(RightError, self.studio.settle, 'cy', number, 0)

    def test_lines_texts_and_talks_that_are_not_there(self):
        number = self.change({'a': 'abcd'})
        for spot in [('a', 0, 4), ('a', -1, 0), ('a', 2, 1), ('b', 0, 0), ('d', 0, 0)]:
            self.refused(ReviewError, self.studio.say, 'cy', number, spot, 'hm')
        self.refused(ReviewError, self.studio.say, 'cy', number, ('a', 0, 0), '')
        self.studio.say('cy', number, ('a', 0, 0), 'hm')
        for place in (-1, 1):
            self.refused(ReviewError, self.studio.answer, 'cy', number, place, 'hm')
            self.refused(ReviewError, self.studio.settle, 'ann', number, place)
        self.refused(ReviewError, self.studio.answer, 'cy', number, 0, '')

    def test_a_closed_change_takes_nothing(self):
        dropped, landed = self.change({'a': 'abcd'}), self.change({'a': 'xabc'})
        self.studio.suite.add('t', ['a'])
        for number in (dropped, landed):
            self.studio.say('cy', number, ('a', 0, 0), 'hm')
        self.host.drop('ann', dropped)
        self.host.land('ann', landed)
        self.tick(2)
        self.assertEqual(self.host.changes[landed].state, 'landed')
        for number in (dropped, landed):
            self.refused(ReviewError, self.studio.say, 'cy', number, ('a', 0, 0), 'hm')
            self.refused(ReviewError, self.studio.answer, 'cy', number, 0, 'hm')
            self.refused(ReviewError, self.studio.settle, 'cy', number, 0)
            self.refused(ReviewError, self.studio.move, 'ann', number, self.first)
            self.refused(ReviewError, self.studio.note, 'ann', number, 't', True)
            self.refused(ReviewError, self.studio.land, 'ann', number)


class MoveTest(StudioCase):
    def test_talks_go_with_their_lines(self):
        number = self.change({'a': 'abcdef', 'd/e': '123'})
        spots = [('a', 0, 1), ('a', 2, 4), ('a', 5, 5), ('d/e', 2, 2)]
        for spot in spots:
            self.studio.say('cy', number, spot, 'hm')
        self.studio.settle('ann', number, 3)
        gone = self.studio.move('ann', number, self.commit({'a': 'xabce', 'd/e': '123'}, self.first))
        self.assertEqual(gone, (2,))
        talk = self.studio.talk_of(number)
        self.assertEqual([talk.anchors[place].shown() for place in range(4)], [
            ('a', 1, 2, ('a', 'b'), 'moved'), ('a', 3, 4, ('c', 'e'), 'changed'), ('a', 5, 5, ('f',), 'gone'),
            ('d/e', 2, 2, ('3',), 'same')])
        self.assertEqual(talk.settled, {0: False, 1: False, 2: True, 3: True})

    def test_files_that_are_gone_and_talks_that_were_gone_before(self):
        number = self.change({'a': 'abcd'})
        self.studio.say('cy', number, ('a', 3, 3), 'hm')
        self.studio.say('cy', number, ('d/e', 0, 1), 'hm')
        self.assertEqual(self.studio.move('ann', number, self.commit({'a': 'abc', 'b': '12'}, self.first)), (0, 1))
        self.studio.answer('dee', number, 0, 'but')
        self.assertEqual(self.studio.talk_of(number).settled, {0: False, 1: True})
        self.assertEqual(self.studio.move('ann', number, self.commit({'a': 'abcd', 'd/e': '12'}, self.first)), ())
        self.assertEqual(self.studio.talk_of(number).settled, {0: False, 1: True})

    def test_talks_of_other_changes_stay(self):
        one, other = self.change({'a': 'abcd'}), self.change({'a': 'abce'})
        for number in (one, other):
            self.studio.say('cy', number, ('a', 3, 3), 'hm')
        self.assertEqual(self.studio.move('ann', one, self.first), (0,))
        self.assertEqual(self.studio.talk_of(other).settled, {0: False})

    def test_the_host_refuses(self):
        number = self.change({'a': 'abcd'})
        there = self.host.propose('ann', 'main', self.first)
        self.studio.say('cy', number, ('a', 3, 3), 'hm')
        self.refused(RightError, self.studio.move, 'bob', number, self.first)
        self.refused(RightError, self.studio.move, 'cy', number, self.first)
        self.refused(RightError, self.studio.move, 'root', number, self.first)
        self.refused(RightError, self.studio.move, 'bob', there, self.first)
        self.refused(GraphError, self.studio.move, 'ann', number, 99)
        self.assertEqual(self.studio.move('ann', number, self.host.changes[number].head), ())


class TestsTest(StudioCase):
    def setUp(self):
        StudioCase.setUp(self)
        self.studio.suite.add('base', [])
        self.studio.suite.add('unit', ['a'], ['base'])
        self.studio.suite.add('deep', ['d/**'])
        self.studio.suite.add('flow', [], ['deep'])

    def test_tests_that_a_change_can_touch(self):
        told = [({'a': 'abcd'}, ('base', 'unit')), ({'d/e': '1'}, ('deep', 'flow')), ({'x': '1'}, ()), ({}, ()),
                ({'a': 'x', 'd/f': '1'}, ('base', 'unit', 'deep', 'flow'))]
        for files, tests in told:
            self.assertEqual(self.studio.tests_of(self.change(files)), tests)
        # The paths of a change are those against its latest common base with the branch.
        other = self.commit({'a': 'abcz', 'd/e': '12'}, self.first)
        change = self.studio.propose('ann', 'main', other)
        self.host.land('ann', change)
        self.tick(2)
        later = self.studio.propose('ann', 'main', self.commit({'a': 'abcz', 'd/e': '123'}, other))
        self.assertEqual(self.studio.tests_of(later), ('deep', 'flow'))

    def test_notes_are_on_the_tree_of_the_end_then(self):
        number = self.change({'a': 'abcd'})
        before = self.host.graph.commit(self.host.changes[number].head).tree
        self.studio.note('ann', number, 'unit', True)
        self.studio.note('bob', number, 'base', False)
        self.studio.move('ann', number, self.commit({'a': 'abce', 'd/e': '12'}, self.first))
        after = self.host.graph.commit(self.host.changes[number].head).tree
        self.studio.note('root', number, 'base', True)
        self.assertEqual(self.studio.trust.rows, [('unit', before, True), ('base', before, False), ('base', after, True)])
        self.assertNotEqual(before, after)

    def test_who_may_not_and_other_tests(self):
        number = self.change({'a': 'abcd'})
        for name in ('cy', 'eve'):
            self.refused(RightError, self.studio.note, name, number, 'unit', True)
            self.refused(RightError, self.studio.note, name, 99, 'unit', True)
        for test in ('deep', 'flow', 'nothing', ''):
            self.refused(ReviewError, self.studio.note, 'ann', number, test, True)

    def test_what_a_change_lacks(self):
        self.host.make_branch('root', 'strict', self.first)
        self.host.guard('root', 'strict', Rules(1, {'a': ('bob',)}))
        number = self.change({'a': 'abcd'}, branch='strict')
        self.assertEqual(self.studio.lacking(number), ('votes', 'owner a', 'tests'))
        self.studio.say('cy', number, ('a', 0, 0), 'hm')
        self.host.remark('cy', number, 'a', 0, 'hm')
        self.assertEqual(self.studio.lacking(number), ('votes', 'remarks', 'owner a', 'talks', 'tests'))
        self.host.vote('bob', number, 1)
        self.host.settle('ann', number, 0)
        self.studio.note('ann', number, 'unit', True)
        self.assertEqual(self.studio.lacking(number), ('talks', 'tests'))
        self.refused(ReviewError, self.studio.land, 'ann', number)
        self.studio.note('ann', number, 'base', False)
        self.studio.settle('cy', number, 0)
        self.assertEqual(self.studio.lacking(number), ('tests',))
        self.refused(ReviewError, self.studio.land, 'ann', number)
        self.studio.note('ann', number, 'base', True)
        self.assertEqual(self.studio.lacking(number), ())
        # A new end has no rows of its own.
        self.studio.move('ann', number, self.commit({'a': 'abcx', 'd/e': '12'}, self.first))
        self.assertEqual(self.studio.lacking(number), ('votes', 'owner a', 'tests'))

    def test_tests_that_cannot_be_trusted_do_not_count(self):
        for files in ({'a': 'x'}, {'a': 'y'}):
            number = self.change(files)
            for good in (True, False):
                self.studio.note('ann', number, 'unit', good)
        number = self.change({'a': 'z'})
        self.assertEqual(self.studio.trust.doubtful(), ('unit',))
        self.assertEqual(self.studio.lacking(number), ('tests',))
        self.studio.note('ann', number, 'base', True)
        self.assertEqual(self.studio.lacking(number), ())

    def test_talks_whose_lines_are_gone_hold_nothing(self):
        number = self.change({'x': '1'})
        self.studio.say('cy', number, ('x', 0, 0), 'hm')
        self.assertEqual(self.studio.lacking(number), ('talks',))
        self.studio.move('ann', number, self.commit({'a': 'abc', 'd/e': '12', 'x': '2'}, self.first))
        self.assertEqual(self.studio.lacking(number), ())


class LandTest(StudioCase):
    def test_landing_as_the_host_does(self):
        number = self.change({'a': 'abcd'})
        for name in ('cy', 'eve'):
            self.refused(RightError, self.studio.land, name, number)
            self.refused(RightError, self.studio.land, name, 99)
        self.studio.land('bob', number)
        self.refused(ReviewError, self.studio.land, 'ann', number)
        self.tick(2)
        self.assertEqual(self.host.branches['main'].queue.landed, [(number, 1, 1)])
        self.assertEqual(self.host.time, 2)

    def test_what_is_said_while_a_change_waits_does_not_hold_it(self):
        self.studio.suite.add('unit', ['a'])
        number = self.change({'a': 'abcd'})
        self.studio.note('ann', number, 'unit', True)
        self.studio.land('ann', number)
        self.studio.say('cy', number, ('a', 0, 0), 'hm')
        self.studio.note('ann', number, 'unit', False)
        self.assertEqual(self.studio.lacking(number), ('talks', 'tests'))
        self.tick(2)
        self.assertEqual(self.host.changes[number].state, 'landed')
        # But a remark does, as the host has it.
        number = self.change({'x': '1'})
        self.studio.land('ann', number)
        self.host.remark('cy', number, 'x', 0, 'hm')
        self.tick(2)
        self.assertEqual(self.host.branches['main'].queue.events[-1][1:], ('lacking', number))

    def test_a_moved_one_goes_out(self):
        number = self.change({'x': '1'})
        self.studio.land('ann', number)
        self.studio.move('ann', number, self.commit({'a': 'abc', 'd/e': '12', 'x': '2'}, self.first))
        self.tick()
        self.assertEqual(self.host.branches['main'].queue.events, [(1, 'moved', number)])


class ReleaseTest(StudioCase):
    def land(self, *numbers):
        for number in numbers:
            self.studio.land('ann', number)
        self.tick(2)

    def test_the_first_one_and_those_behind_it(self):
        one, two = self.change({'x': '1'}, 'fix: one'), self.change({'y': '1'}, 'docs')
        self.land(one, two)
        self.assertEqual(self.studio.release('ann', 'main'), ((0, 1, 1), ('version 0.1.1', 'fix:', '- one (0)')))
        self.land(self.change({'z': '1'}, 'break: two'), self.change({'w': '1'}, 'add: three'))
        self.assertEqual(self.studio.release('bob', 'main'),
                         ((0, 2, 0), ('version 0.2.0', 'break:', '- two (2)', 'add:', '- three (3)')))
        self.refused(ReviewError, self.studio.release, 'ann', 'main')

    def test_nothing_to_release(self):
        self.refused(ReviewError, self.studio.release, 'ann', 'main')
        self.refused(ReviewError, self.studio.release, 'ann', 'free')
        self.land(self.change({'x': '1'}, 'docs'))
        self.refused(ReviewError, self.studio.release, 'ann', 'main')
        # What landed of no class waits for the next release, which takes all of it.
        self.land(self.change({'y': '1'}, 'add: y'))
        self.assertEqual(self.studio.release('ann', 'main'), ((0, 1, 1), ('version 0.1.1', 'add:', '- y (1)')))
        self.refused(ReviewError, self.studio.release, 'ann', 'main')

    def test_each_branch_has_its_own(self):
        self.land(self.change({'x': '1'}, 'break: x'), self.change({'y': '1'}, 'fix: y', 'rc'))
        self.assertEqual(self.studio.release('ann', 'rc'), ((0, 1, 1), ('version 0.1.1', 'fix:', '- y (1)')))
        self.refused(ReviewError, self.studio.release, 'ann', 'rc')
        self.assertEqual(self.studio.release('ann', 'main'), ((0, 2, 0), ('version 0.2.0', 'break:', '- x (0)')))

    def test_tick_by_tick_by_numbers(self):
        numbers = [self.change({f'x{n}': '1'}, f'fix: {n}') for n in range(5)]
        self.land(numbers[3])
        for number in (4, 2, 0, 1):
            self.studio.land('ann', number)
        self.tick(6)
        self.assertEqual([row[0] for row in self.host.branches['main'].queue.landed], [3, 4, 2, 0, 1])
        times = {number: time for time, _, number in self.host.branches['main'].queue.events}
        order = sorted(numbers, key=lambda number: (times[number], number))
        # Two of them landed in one tick, 4 ahead of 2.
        self.assertEqual((times[4], times[2]), (4, 4))
        self.assertEqual(order, [3, 2, 4, 0, 1])
        lines = tuple(f'- {number} ({number})' for number in order)
        self.assertEqual(self.studio.release('ann', 'main'), ((0, 1, 1), ('version 0.1.1', 'fix:', *lines)))

    def test_what_does_not_land_does_not_count(self):
        bad, moved = self.change({'x': '!'}, 'fix: bad'), self.change({'y': '1'}, 'fix: moved')
        self.studio.land('ann', bad)
        self.studio.land('ann', moved)
        self.host.drop('ann', moved)
        self.tick(4)
        self.assertEqual([row[1] for row in self.host.branches['main'].queue.events], ['moved', 'failed'])
        self.refused(ReviewError, self.studio.release, 'ann', 'main')

    def test_the_message_is_that_of_the_changes_end(self):
        number = self.change({'x': '1'}, 'break: older')
        head = self.commit({'a': 'abc', 'd/e': '12', 'x': '2'}, self.first, message='fix: newer')
        self.studio.move('ann', number, head)
        other = self.change({'y': '1'}, 'fix: joined')
        self.land(number, other)
        self.assertEqual(self.studio.release('ann', 'main')[1], ('version 0.1.1', 'fix:', '- newer (0)', '- joined (1)'))

    def test_who_may_not_and_unknown_branches(self):
        self.land(self.change({'x': '1'}, 'fix: x'))
        for name in ('cy', 'eve'):
            self.refused(RightError, self.studio.release, name, 'main')
            self.refused(RightError, self.studio.release, name, 'nothing')
        self.refused(GraphError, self.studio.release, 'ann', 'nothing')
        self.assertEqual(self.studio.release('ann', 'main')[0], (0, 1, 1))

    def test_no_number_is_left(self):
        self.studio.versions['main'] = (0, 1, 9999)
        self.land(self.change({'x': '1'}, 'fix: x'))
        self.refused(VersionError, self.studio.release, 'ann', 'main')
        self.land(self.change({'y': '1'}, 'break: y'))
        self.assertEqual(self.studio.release('ann', 'main')[0], (0, 2, 0))

    def test_what_landed_through_the_host_alone_counts(self):
        there = self.host.propose('ann', 'main', self.commit({'a': 'abcd', 'd/e': '12'}, self.first, message='add: a'))
        self.host.land('ann', there)
        self.tick(2)
        self.assertEqual(self.studio.release('ann', 'main'), ((0, 1, 1), ('version 0.1.1', 'add:', '- a (0)')))


if __name__ == '__main__':
    unittest.main()
