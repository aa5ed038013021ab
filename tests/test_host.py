"""Points 9, 10 and 12: rights, branches, changes, and the ticks of a host."""

import copy
import unittest

from landstack.checks import Job, Plan, Scheduler
from landstack.errors import CheckError, ContentError, GraphError, HostError, ReviewError, RightError
from landstack.host import RIGHTS, Branch, Host
from landstack.reviews import Rules


class HostCase(unittest.TestCase):
    def setUp(self):
        jobs = [Job('build', (), 2), Job('test', ('build',), 1, 2)]
        self.host = Host(Scheduler(Plan(jobs), 2, self.judge), 'root')
        for name, right in [('ann', 'write'), ('bob', 'write'), ('cy', 'write'), ('eve', 'read')]:
            self.host.allow('root', name, right)
        self.first = self.commit({'a': 'xyz', 'b/c': '1'})
        self.host.make_branch('root', 'main', self.first)

    def judge(self, name, tree, tried):
        lines = [line for lines in self.host.graph.contents.files(tree).values() for line in lines]
        return name == 'build' or not ('!' in lines or ('?' in lines and tried == 1))

    def commit(self, files, *parents, name='ann', message='m'):
        return self.host.commit(name, {path: tuple(lines) for path, lines in files.items()}, parents, message)

    def guard(self, needed=0, owners=(), sticky=False, depth=3, branch='main'):
        self.host.guard('root', branch, Rules(needed, owners, sticky), depth)

    def propose(self, files, name='ann', branch='main', base=None):
        base = self.first if base is None else base
        return self.host.propose(name, branch, self.commit({'a': 'xyz', 'b/c': '1', **files}, base, name=name))

    def land(self, *numbers):
        for number in numbers:
            self.host.land('bob', number)

    def tick(self, many=1):
        for _ in range(many):
            self.host.tick()

    def queue(self, branch='main'):
        return self.host.branches[branch].queue

    def queued(self, branch='main'):
        return [entry.change.number for entry in self.queue(branch).entries]

    def files(self, branch='main'):
        rows = self.host.graph.files(self.host.branches[branch].end())
        return {path: ''.join(lines) for path, lines in rows.items()}

    def shown(self):
        """All that can be read of a host."""
        branches = {name: (branch.head, branch.rules, branch.queue and (
            branch.queue.head, [(entry.change.number, entry.head, entry.candidate) for entry in branch.queue.entries],
            branch.queue.events, branch.queue.landed)) for name, branch in self.host.branches.items()}
        changes = [(change.number, change.author, change.branch, change.head, change.state, change.votes, change.remarks)
                   for change in self.host.changes]
        return copy.deepcopy((self.host.rights, branches, changes, self.host.time, len(self.host.graph.commits),
                              self.host.scheduler.asked(), self.host.scheduler.outcomes))

    def refused(self, error, call, *values):
        before = self.shown()
        self.assertRaises(error, call, *values)
        # The rules are an object that no deed changes: they are compared by what they are.
        after = self.shown()
        for told in (before, after):
            for name in told[1]:
                head, rules, queue = told[1][name]
                told[1][name] = (head, rules and (rules.needed, rules.sticky), queue)
        self.assertEqual(before, after)


class RightTest(HostCase):
    def test_a_new_host(self):
        self.assertEqual(RIGHTS, ('read', 'write', 'admin'))
        host = Host(self.host.scheduler, 'me-2')
        self.assertEqual((host.rights, host.branches, host.changes, host.time), ({'me-2': 'admin'}, {}, [], 0))
        self.assertEqual((host.graph.commits, host.graph.contents.rows), ([], []))

    def test_names(self):
        for name in ['a', 'z9', '0', '-', 'a' * 20]:
            Host(self.host.scheduler, name)
            self.host.allow('root', name, 'read')
            self.host.make_branch('root', name, self.first)
        for name in ['', 'A', 'a b', 'a_b', 'a.b', 'a/b', 'a' * 21, 'a\n']:
            self.assertRaises(RightError, Host, self.host.scheduler, name)
            self.refused(RightError, self.host.allow, 'root', name, 'read')
            self.refused(RightError, self.host.allow, 'root', name, None)
            self.refused(RightError, self.host.make_branch, 'root', name, self.first)

    def test_rights_are_given_and_taken(self):
        self.host.allow('root', 'dan', 'read')
        self.assertEqual(self.host.rights['dan'], 'read')
        self.host.allow('root', 'dan', 'admin')
        self.host.allow('dan', 'eve', 'write')
        self.assertEqual(self.host.rights, {'root': 'admin', 'ann': 'write', 'bob': 'write', 'cy': 'write',
                                            'eve': 'write', 'dan': 'admin'})
        self.host.allow('dan', 'eve', None)
        self.host.allow('dan', 'nobody', None)
        self.assertEqual(sorted(self.host.rights), ['ann', 'bob', 'cy', 'dan', 'root'])
        self.refused(RightError, self.host.commit, 'eve', {}, (), 'm')

    def test_wrong_rights(self):
        for right in ['', 'Read', 'owner', 'none']:
            self.refused(RightError, self.host.allow, 'root', 'dan', right)

    def test_the_last_admin_keeps_the_right(self):
        for right in ('read', 'write', None):
            self.refused(RightError, self.host.allow, 'root', 'root', right)
        self.host.allow('root', 'root', 'admin')
        self.host.allow('root', 'ann', 'admin')
        self.host.allow('ann', 'root', None)
        self.assertNotIn('root', self.host.rights)
        self.refused(RightError, self.host.allow, 'ann', 'ann', 'write')
        self.refused(RightError, self.host.allow, 'root', 'root', 'admin')

    def test_who_may_do_what(self):
        self.guard()
        self.host.make_branch('ann', 'side', self.first)
        self.propose({'a': 'q'})
        self.propose({'a': 'r'})
        self.host.remark('ann', 0, 'a', 0, 'why')
        host = self.host
        for need, call, *values in [
                ('admin', host.allow, 'dan', 'read'), ('admin', host.guard, 'side', Rules()),
                ('write', host.commit, {}, (), 'm'), ('write', host.make_branch, 'new', self.first),
                ('write', host.push, 'side', self.first), ('write', host.propose, 'main', self.first),
                ('write', host.vote, 0, 1), ('write', host.move, 0, self.first), ('write', host.drop, 0),
                ('write', host.land, 1), ('read', host.remark, 0, 'a', 0, 'x'), ('read', host.settle, 0, 0)]:
            for right in ('read', 'write', 'admin'):
                if RIGHTS.index(right) < RIGHTS.index(need):
                    host.rights['dan'] = right
                    with self.subTest(call=call, right=right):
                        self.refused(RightError, call, 'dan', *values)
            host.rights.pop('dan', None)
            with self.subTest(call=call):
                self.refused(RightError, call, 'dan', *values)
                self.refused(RightError, call, '', *values)

    def test_rights_have_those_before_them(self):
        self.guard()
        number = self.propose({'a': 'q'})
        for name, right in [('dan', 'read'), ('fay', 'write'), ('gil', 'admin')]:
            self.host.allow('root', name, right)
            place = self.host.remark(name, number, 'a', 0, 'why')
            self.host.settle(name, number, place)
        for name in ('fay', 'gil'):
            self.host.vote(name, number, 1)
            self.commit({}, name=name)
        self.host.allow('gil', 'dan', 'write')
        self.assertEqual(self.host.changes[number].votes, {'fay': 1, 'gil': 1})

    def test_an_author_without_the_right_to_write(self):
        self.guard()
        number = self.propose({'a': 'q'})
        self.host.allow('root', 'ann', 'read')
        self.refused(RightError, self.host.move, 'ann', number, self.first)
        self.refused(RightError, self.host.drop, 'ann', number)
        self.refused(RightError, self.host.land, 'ann', number)


class BranchTest(HostCase):
    def test_commits(self):
        self.tick(3)
        number = self.host.commit('bob', {'a/b': ('x', 'y')}, (self.first,), 'hello')
        commit = self.host.graph.commit(number)
        self.assertEqual(commit.shown(), (commit.tree, (self.first,), 'bob', 3, 'hello'))
        self.assertEqual(self.host.graph.files(number), {'a/b': ('x', 'y')})
        self.refused(ContentError, self.host.commit, 'bob', {'a//b': ()}, (), 'm')
        self.refused(ContentError, self.host.commit, 'bob', {'a': (), 'a/b': ()}, (), 'm')
        self.refused(GraphError, self.host.commit, 'bob', {}, (99,), 'm')
        self.refused(GraphError, self.host.commit, 'bob', {}, (), 'm' * 201)

    def test_branches(self):
        branch = Branch(4)
        self.assertEqual((branch.head, branch.rules, branch.queue, branch.end()), (4, None, None, 4))
        self.host.make_branch('ann', 'side', self.first)
        self.assertEqual(self.host.branches['side'].end(), self.first)
        self.refused(GraphError, self.host.make_branch, 'ann', 'side', self.first)
        self.refused(GraphError, self.host.make_branch, 'ann', 'main', self.first)
        self.refused(GraphError, self.host.make_branch, 'ann', 'new', 99)

    def test_pushes(self):
        one = self.commit({'a': 'q'}, self.first)
        other = self.commit({'a': 'r'}, self.first)
        join = self.commit({'a': 's'}, other, one)
        self.host.push('ann', 'main', one)
        self.assertEqual(self.host.branches['main'].end(), one)
        self.refused(GraphError, self.host.push, 'ann', 'main', other)
        self.refused(GraphError, self.host.push, 'ann', 'main', self.first)
        self.refused(GraphError, self.host.push, 'ann', 'main', 99)
        self.refused(GraphError, self.host.push, 'ann', 'nope', one)
        self.host.push('bob', 'main', join)
        self.host.push('bob', 'main', join)
        self.assertEqual(self.host.branches['main'].end(), join)

    def test_guards(self):
        rules = Rules(2)
        self.refused(GraphError, self.host.guard, 'root', 'main', rules, 0)
        self.refused(GraphError, self.host.guard, 'root', 'main', rules, -1)
        self.refused(GraphError, self.host.guard, 'root', 'nope', rules)
        self.host.guard('root', 'main', rules, 1)
        branch = self.host.branches['main']
        self.assertEqual((branch.rules, branch.end(), branch.queue.head), (rules, self.first, self.first))
        self.refused(GraphError, self.host.guard, 'root', 'main', rules)
        one = self.commit({'a': 'q'}, self.first)
        self.refused(RightError, self.host.push, 'root', 'main', one)
        self.refused(RightError, self.host.push, 'root', 'main', self.first)
        self.refused(GraphError, self.host.make_branch, 'root', 'main', one)


class ChangeTest(HostCase):
    def setUp(self):
        super().setUp()
        self.guard(1)

    def test_proposals(self):
        head = self.commit({'a': 'q'}, self.first)
        self.assertEqual(self.host.propose('bob', 'main', head), 0)
        self.assertEqual(self.host.propose('ann', 'main', self.first), 1)
        change = self.host.changes[0]
        self.assertEqual((change.number, change.author, change.branch, change.head, change.state),
                         (0, 'bob', 'main', head, 'open'))
        self.assertEqual(self.host.branches['main'].end(), self.first)
        self.host.make_branch('ann', 'side', self.first)
        self.refused(ReviewError, self.host.propose, 'ann', 'side', head)
        self.refused(GraphError, self.host.propose, 'ann', 'nope', head)
        self.refused(GraphError, self.host.propose, 'ann', 'main', 99)

    def test_votes(self):
        number = self.propose({'a': 'q'})
        self.host.vote('bob', number, 1)
        self.host.vote('cy', number, -1)
        self.assertEqual(self.host.changes[number].votes, {'bob': 1, 'cy': -1})
        self.host.vote('cy', number, 0)
        self.assertEqual(self.host.changes[number].votes, {'bob': 1})
        for name, other, value in [('ann', number, 1), ('bob', number, 2), ('bob', 1, 1), ('bob', -1, 1)]:
            self.refused(ReviewError, self.host.vote, name, other, value)

    def test_remarks(self):
        number = self.propose({'a': 'qr', 'd': ''})
        self.assertEqual(self.host.remark('eve', number, 'a', 0, 'why'), 0)
        self.assertEqual(self.host.remark('ann', number, 'a', 1, 'so'), 1)
        self.assertEqual(self.host.remark('bob', number, 'b/c', 0, 'hm'), 2)
        for other, path, line in [(number, 'a', 2), (number, 'a', -1), (number, 'd', 0), (number, 'b', 0),
                                  (number, 'nope', 0), (1, 'a', 0), (-1, 'a', 0)]:
            self.refused(ReviewError, self.host.remark, 'eve', other, path, line, 'x')
        self.assertIn('remarks', self.host.lacking(number))
        for name, place in [('bob', 0), ('root', 0), ('eve', 1), ('eve', 3), ('ann', -1), ('eve', -3)]:
            self.refused(ReviewError, self.host.settle, name, number, place)
        self.refused(ReviewError, self.host.settle, 'ann', 1, 0)
        self.host.settle('eve', number, 0)
        self.host.settle('ann', number, 1)
        self.assertIn('remarks', self.host.lacking(number))
        self.host.settle('ann', number, 2)
        self.assertNotIn('remarks', self.host.lacking(number))

    def test_remarks_are_on_lines_of_the_present_end(self):
        number = self.propose({'a': 'q'})
        self.host.move('ann', number, self.commit({'e': '1'}, self.first))
        self.refused(ReviewError, self.host.remark, 'eve', number, 'a', 0, 'why')
        self.assertEqual(self.host.remark('eve', number, 'e', 0, 'why'), 0)

    def test_moves(self):
        number = self.propose({'a': 'q'})
        change = self.host.changes[number]
        self.host.vote('bob', number, 1)
        self.host.vote('cy', number, -1)
        same = self.commit({'a': 'q', 'b/c': '1'}, self.first, message='other words')
        self.assertNotEqual(same, change.head)
        self.host.move('ann', number, same)
        self.assertEqual((change.head, change.votes), (same, {'bob': 1, 'cy': -1}))
        other = self.commit({'a': 'r'}, self.first)
        self.refused(GraphError, self.host.move, 'ann', number, 99)
        self.host.move('ann', number, other)
        self.assertEqual((change.head, change.votes), (other, {'cy': -1}))

    def test_rules_that_keep_votes(self):
        self.host.make_branch('ann', 'side', self.first)
        self.guard(0, (), True, 3, 'side')
        number = self.propose({'a': 'q'}, branch='side')
        self.host.vote('bob', number, 1)
        self.host.move('ann', number, self.first)
        self.assertEqual(self.host.changes[number].votes, {'bob': 1})

    def test_only_its_author_moves_a_change(self):
        number = self.propose({'a': 'q'})
        for name in ('bob', 'root', 'eve', 'nobody'):
            self.refused(RightError, self.host.move, name, number, self.first)
            self.refused(RightError, self.host.move, name, number, 99)
        self.refused(ReviewError, self.host.move, 'ann', 1, self.first)
        self.host.drop('ann', number)
        self.refused(RightError, self.host.move, 'bob', number, 99)
        self.refused(ReviewError, self.host.move, 'ann', number, self.first)

    def test_drops(self):
        one, two, three = [self.propose({'a': name}) for name in 'qrs']
        for name in ('bob', 'eve', 'nobody'):
            self.refused(RightError, self.host.drop, name, one)
        self.host.drop('ann', one)
        self.host.drop('root', two)
        self.assertEqual([change.state for change in self.host.changes], ['dropped', 'dropped', 'open'])
        self.refused(ReviewError, self.host.drop, 'ann', one)
        self.refused(ReviewError, self.host.drop, 'root', one)
        self.refused(RightError, self.host.drop, 'bob', one)
        self.refused(ReviewError, self.host.drop, 'root', 3)

    def test_a_change_that_is_dropped_takes_nothing(self):
        number = self.propose({'a': 'q'})
        self.host.remark('eve', number, 'a', 0, 'why')
        self.host.drop('ann', number)
        for call, *values in [(self.host.vote, 'bob', number, 1), (self.host.remark, 'eve', number, 'a', 0, 'x'),
                              (self.host.settle, 'eve', number, 0), (self.host.move, 'ann', number, self.first),
                              (self.host.land, 'ann', number)]:
            self.refused(ReviewError, call, *values)


class LackingTest(HostCase):
    def test_paths_against_the_latest_common_base(self):
        self.host.push('ann', 'main', self.commit({'a': 'xyz', 'b/c': '2', 'new': ''}, self.first))
        self.guard(0, {'': ('bob',)})
        self.assertEqual(self.host.lacking(self.propose({'a': 'q'})), ('owner a',))
        number = self.propose({'a': 'xyz', 'z': '', 'd/e': ''})
        self.assertEqual(self.host.lacking(number), ('owner d/e', 'owner z'))
        end = self.host.branches['main'].end()
        join = self.commit({'a': 'xyz', 'b/c': '3', 'new': ''}, self.host.changes[number].head, end)
        self.assertEqual(self.host.lacking(self.host.propose('ann', 'main', join)), ('owner b/c',))
        self.assertEqual(self.host.lacking(self.host.propose('ann', 'main', end)), ())
        alone = self.commit({'a': 'xyz', 'q': ''})
        self.assertEqual(self.host.lacking(self.host.propose('ann', 'main', alone)), ('owner a', 'owner q'))
        gone = self.commit({'b/c': '1'}, self.first)
        self.assertEqual(self.host.lacking(self.host.propose('ann', 'main', gone)), ('owner a',))

    def test_the_latest_of_several_bases(self):
        one = self.commit({'a': '1', 'b/c': '1'}, self.first)
        other = self.commit({'a': 'xyz', 'b/c': '2'}, self.first)
        self.host.push('ann', 'main', self.commit({'a': '1', 'b/c': '2'}, one, other))
        self.guard(0, {'': ('bob',)})
        head = self.commit({'a': '1', 'b/c': '2', 'd': ''}, other, one)
        self.assertEqual(self.host.lacking(self.host.propose('ann', 'main', head)), ('owner a', 'owner d'))

    def test_what_is_lacking_follows_the_branch(self):
        self.guard(0, {'b': ('bob',)})
        one = self.propose({'b/c': '2'}, 'bob')
        head = self.commit({'a': 'q', 'b/c': '2'}, self.host.changes[one].head)
        other = self.host.propose('ann', 'main', head)
        self.assertEqual(self.host.lacking(other), ('owner b/c',))
        self.land(one)
        self.tick(4)
        self.assertEqual(self.host.branches['main'].end(), self.host.changes[one].head)
        self.assertEqual(self.host.lacking(other), ())

    def test_owners_and_votes(self):
        self.guard(1, {'b': ('bob', 'ann'), 'a': ('cy',)})
        number = self.propose({'a': 'q', 'b/c': '2', 'd': ''})
        self.assertEqual(self.host.lacking(number), ('votes', 'owner a'))
        self.host.remark('eve', number, 'a', 0, 'why')
        self.host.vote('bob', number, -1)
        self.assertEqual(self.host.lacking(number), ('votes', 'against', 'remarks', 'owner a'))
        self.host.vote('cy', number, 1)
        self.assertEqual(self.host.lacking(number), ('against', 'remarks'))
        self.assertRaises(ReviewError, self.host.lacking, 1)
        self.assertRaises(ReviewError, self.host.lacking, -1)

    def test_landing_what_lacks_something(self):
        self.guard(1)
        number = self.propose({'a': 'q'})
        self.refused(ReviewError, self.host.land, 'ann', number)
        self.host.vote('bob', number, 1)
        self.refused(ReviewError, self.host.land, 'ann', 1)
        self.host.land('cy', number)
        self.refused(ReviewError, self.host.land, 'ann', number)
        self.assertEqual(self.queued(), [number])
        self.tick(4)
        self.refused(ReviewError, self.host.land, 'ann', number)
        self.host.drop('ann', self.propose({'a': 'q'}))
        self.refused(ReviewError, self.host.land, 'ann', 1)


class TickTest(HostCase):
    def test_time_passes(self):
        self.tick(3)
        self.assertEqual(self.host.time, 3)

    def test_a_change_lands(self):
        self.guard()
        number = self.propose({'a': 'q'})
        self.land(number)
        self.assertEqual((self.queue().events, self.host.scheduler.asked()), ([], []))
        # Jobs begin in the first tick; "build" ends in the third one, "test" in the fourth.
        for _ in range(3):
            self.tick()
            self.assertEqual((self.queued(), self.queue().events), ([number], []))
        self.tick()
        head = self.host.changes[number].head
        self.assertEqual((self.queue().events, self.queue().landed), ([(4, 'landed', 0)], [(0, head, head)]))
        self.assertEqual((self.host.branches['main'].end(), self.host.branches['main'].head), (head, head))
        self.assertEqual((self.host.changes[number].state, self.queued()), ('landed', []))

    def test_depth(self):
        for depth, events in [(1, [(4, 'landed', 0), (8, 'landed', 1), (12, 'landed', 2), (16, 'landed', 3)]),
                              (2, [(4, 'landed', 0), (4, 'landed', 1), (8, 'landed', 2), (8, 'landed', 3)]),
                              (3, [(4, 'landed', 0), (4, 'landed', 1), (7, 'landed', 2), (8, 'landed', 3)])]:
            with self.subTest(depth):
                self.setUp()
                self.guard(depth=depth)
                self.land(*[self.propose({name: ''}) for name in 'defg'])
                self.tick(20)
                self.assertEqual(self.queue().events, events)
                self.assertEqual(self.files(), {'a': 'xyz', 'b/c': '1', 'd': '', 'e': '', 'f': '', 'g': ''})

    def test_joined_changes_are_joined_as_the_merge_says(self):
        self.guard()
        one, two = self.propose({'a': '1xyz'}), self.propose({'a': 'xyz2'}, 'bob')
        self.land(one, two)
        self.tick(4)
        (_, _, first), (_, end, second) = self.queue().landed
        commit = self.host.graph.commit(second)
        self.assertEqual((commit.parents, commit.author, commit.message), ((first, end), 'bob', 'land 1'))
        self.assertEqual((self.files()['a'], self.host.branches['main'].end()), ('1xyz2', second))

    def test_a_failed_change_goes_out_and_others_are_joined_anew(self):
        self.guard()
        numbers = [self.propose({'a': '1xyz'}), self.propose({'a': 'x!yz'}), self.propose({'a': 'xyz3'})]
        self.land(*numbers)
        self.tick()
        before = self.queue().entries[2].candidate
        self.tick(19)
        self.assertEqual([event[1:] for event in self.queue().events],
                         [('landed', 0), ('failed', 1), ('landed', 2)])
        self.assertEqual(self.files()['a'], '1xyz3')
        self.assertEqual([change.state for change in self.host.changes], ['landed', 'open', 'landed'])
        self.assertNotEqual(self.queue().landed[1][2], before)
        self.assertEqual(self.queue().landed[1][2], self.host.branches['main'].end())

    def test_a_change_that_failed_is_queued_again(self):
        self.guard()
        number = self.propose({'a': '!'})
        self.land(number)
        self.tick(5)
        self.assertEqual(self.queue().events, [(5, 'failed', 0)])
        self.land(number)
        self.tick()
        # What came of a tree is not asked again.
        self.assertEqual(self.queue().events, [(5, 'failed', 0), (6, 'failed', 0)])
        self.host.move('ann', number, self.commit({'a': 'q'}, self.first))
        self.land(number)
        self.tick(4)
        self.assertEqual(self.queue().events[2:], [(10, 'landed', 0)])

    def test_a_job_that_is_tried_twice(self):
        self.guard()
        self.land(self.propose({'a': '?'}))
        self.tick(5)
        self.assertEqual(self.queue().events, [(5, 'landed', 0)])

    def test_checks_that_are_known_let_several_land_at_once(self):
        self.guard()
        self.host.make_branch('ann', 'side', self.first)
        self.guard(branch='side', depth=1)
        self.land(*[self.propose({name: ''}) for name in 'de'])
        self.tick(4)
        sides = [self.host.propose('ann', 'side', row[2]) for row in self.queue().landed]
        self.land(*sides)
        self.tick()
        self.assertEqual(self.queue('side').events, [(5, 'landed', 2), (5, 'landed', 3)])
        self.assertEqual(self.host.branches['side'].end(), self.host.branches['main'].end())

    def test_what_lacks_something_goes_out_first(self):
        self.guard(1, depth=1)
        numbers = [self.propose({name: ''}) for name in 'defg']
        for number in numbers:
            self.host.vote('bob', number, 1)
        self.land(*numbers)
        self.host.vote('cy', 2, -1)
        self.host.vote('bob', 0, 0)
        self.host.vote('cy', 3, -1)
        self.tick()
        self.assertEqual(self.queue().events, [(1, 'lacking', 0), (1, 'lacking', 2), (1, 'lacking', 3)])
        self.tick(3)
        self.assertEqual(self.queue().events[3:], [(4, 'landed', 1)])
        self.host.vote('bob', 0, 1)
        self.land(0)
        self.tick(4)
        self.assertEqual(self.queue().events[4:], [(8, 'landed', 0)])

    def test_what_lacks_something_goes_out_till_its_last_tick(self):
        self.guard()
        number = self.propose({'a': 'q'})
        self.land(number)
        self.tick(3)
        self.host.vote('cy', number, -1)
        self.tick()
        self.assertEqual(self.queue().events, [(4, 'lacking', 0)])
        self.assertEqual((self.host.branches['main'].end(), self.host.scheduler.asked()), (self.first, []))

    def test_a_remark_and_an_owner_let_a_change_go_out(self):
        self.guard(0, {'b': ('cy',)})
        one, two = self.propose({'a': 'q'}), self.propose({'b/c': '2'})
        self.host.vote('cy', two, 1)
        self.land(one, two)
        self.host.remark('eve', one, 'a', 0, 'why')
        self.host.vote('cy', two, 0)
        self.tick()
        self.assertEqual(self.queue().events, [(1, 'lacking', 0), (1, 'lacking', 1)])

    def test_a_change_that_is_moved_goes_out_at_its_turn(self):
        self.guard(depth=1)
        one, two, three = [self.propose({name: ''}) for name in 'def']
        self.land(one, two, three)
        self.host.move('ann', two, self.commit({'g': ''}, self.first))
        self.host.drop('ann', three)
        self.tick(3)
        self.assertEqual((self.queue().events, self.queued()), ([], [0, 1, 2]))
        self.tick()
        self.assertEqual(self.queue().events, [(4, 'landed', 0), (4, 'moved', 1), (4, 'moved', 2)])
        self.assertEqual(self.files(), {'a': 'xyz', 'b/c': '1', 'd': ''})

    def test_a_moved_change_that_lacks_something(self):
        self.guard(1, depth=1)
        one, two = self.propose({'d': ''}), self.propose({'e': ''})
        for number in (one, two):
            self.host.vote('bob', number, 1)
        self.land(one, two)
        # The vote goes with the old end: that is told ahead of the move.
        self.host.move('ann', two, self.commit({'g': ''}, self.first))
        self.host.drop('ann', one)
        self.tick()
        self.assertEqual(self.queue().events, [(1, 'lacking', 1), (1, 'moved', 0)])

    def test_conflicts(self):
        self.guard()
        one, two = self.propose({'a': '1'}), self.propose({'a': '2'})
        self.land(one, two)
        self.tick()
        self.assertEqual((self.queue().events, self.queued()), ([(1, 'conflict', 1)], [0]))
        self.tick(3)
        self.land(two)
        self.tick()
        self.assertEqual(self.queue().events[1:], [(4, 'landed', 0), (5, 'conflict', 1)])

    def test_checks_that_nobody_waits_for_are_given_up(self):
        self.guard()
        one, two = self.propose({'d': ''}), self.propose({'e': ''})
        self.land(one, two)
        self.tick()
        trees = [self.host.graph.commit(entry.candidate).tree for entry in self.queue().entries]
        self.assertEqual(self.host.scheduler.asked(), trees)
        self.host.drop('ann', one)
        self.tick()
        head = self.host.graph.commit(self.host.changes[two].head)
        self.assertEqual((self.host.scheduler.asked(), self.queue().events), ([head.tree], [(2, 'moved', 0)]))
        self.tick(3)
        self.assertEqual((self.queue().events[1:], list(self.host.scheduler.outcomes)), ([(5, 'landed', 1)], [head.tree]))

    def test_two_guarded_branches(self):
        for branch in ('late', 'early'):
            self.host.make_branch('ann', branch, self.first)
            self.guard(branch=branch)
        self.land(self.propose({'d': ''}, branch='late'), self.propose({'e': ''}, branch='early'))
        trees = [self.host.graph.commit(change.head).tree for change in self.host.changes]
        self.tick()
        # Branches are looked at in order of their names: the checks of "early" are asked first.
        self.assertEqual(self.host.scheduler.asked(), [trees[1], trees[0]])
        self.tick(3)
        self.assertEqual((self.queue('early').events, self.queue('late').events),
                         ([(4, 'landed', 1)], [(4, 'landed', 0)]))
        self.assertEqual((self.files('early'), self.files('late')),
                         ({'a': 'xyz', 'b/c': '1', 'e': ''}, {'a': 'xyz', 'b/c': '1', 'd': ''}))
        self.assertEqual(self.host.branches['main'].end(), self.first)

    def test_one_tree_of_two_branches(self):
        for branch in ('one', 'two'):
            self.host.make_branch('ann', branch, self.first)
            self.guard(branch=branch)
        numbers = [self.propose({'d': ''}, branch=branch) for branch in ('one', 'two')]
        self.land(*numbers)
        self.tick()
        self.assertEqual(len(self.host.scheduler.asked()), 1)
        self.host.drop('ann', numbers[0])
        self.tick(3)
        self.assertEqual((self.queue('one').events, self.queue('two').events), ([(2, 'moved', 0)], [(4, 'landed', 1)]))


class ErrorTest(HostCase):
    def test_all_errors_are_host_errors(self):
        for error in (RightError, GraphError, ReviewError, ContentError, CheckError):
            self.assertTrue(issubclass(error, HostError))


if __name__ == '__main__':
    unittest.main()
