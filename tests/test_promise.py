"""Point 1, the main promise, over many deeds of several people on guarded branches: of a host, a console, a studio.

A guarded branch changes by landed changes alone; each that lands lacked nothing at the beginning of that tick, joins
the branch's end just as the merge says, and its joined files passed all checks; every queued change lands or goes
out, once.
"""

import random
import unittest

from landstack.checks import Job, Plan, Scheduler
from landstack.console import Console
from landstack.errors import HostError
from landstack.host import Host
from landstack.merging import merge_files
from landstack.releases import class_of
from landstack.reviews import Rules
from landstack.studio import Studio

PEOPLE = ('root', 'ann', 'bob', 'cy', 'eve', 'mallory')
PATHS = ('a', 'b', 'd/e', 'd/f')
GUARDED = ('main', 'rc')


class World:
    """A host, with what is checked of it after each deed and each tick."""

    jobs = ('build', 'lint', 'test')

    def __init__(self, case, seed):
        self.case = case
        self.random = random.Random(seed)
        self.judged = {}
        self.host = None
        first = self.begin()
        self.ends = {branch: first for branch in GUARDED}
        self.left = {branch: 0 for branch in GUARDED}
        self.words = {}

    def begin(self):
        """Let people, branches and rules be there, and return the first commit."""
        jobs = [Job('build', (), 2), Job('lint'), Job('test', ('build',), 1, 2)]
        self.host = Host(Scheduler(Plan(jobs), 2, self.judge), 'root')
        for name in ('ann', 'bob', 'cy'):
            self.host.allow('root', name, 'write')
        self.host.allow('root', 'eve', 'read')
        first = self.host.commit('root', {path: tuple('123456') for path in PATHS}, (), 'begin')
        for branch, rules, depth in [('main', Rules(1, {'d': ('bob', 'ann'), 'd/f': ('cy',)}), 2),
                                     ('rc', Rules(0, {'a': ('ann',)}, True), 3)]:
            self.host.make_branch('root', branch, first)
            self.host.guard('root', branch, rules, depth)
        self.host.make_branch('root', 'free', first)
        return first

    def judge(self, name, tree, tried):
        lines = [line for text in self.host.graph.contents.files(tree).values() for line in text]
        good = not ('bad' in lines or (name == 'test' and 'flaky' in lines and tried == 1))
        self.judged[(tree, name)] = good
        return good

    def some_commit(self):
        """A commit of somebody who may write, which changes a few lines of another commit."""
        parent = self.random.randrange(len(self.host.graph.commits))
        if self.random.random() < 0.6:
            parent = self.host.branches[self.random.choice(GUARDED)].end()
        files = dict(self.host.graph.files(parent))
        for _ in range(self.random.randrange(1, 3)):
            path = self.random.choice(PATHS)
            lines = list(files.get(path, ()))
            place = self.random.randrange(len(lines) + 1)
            word = self.random.choice(['x', 'y', 'z', 'w', 'v', 'flaky', 'bad'])
            lines[place:place + self.random.randrange(2)] = [word]
            files[path] = tuple(lines)
        if self.random.random() < 0.1:
            files.pop(self.random.choice(PATHS), None)
        return self.host.commit(self.random.choice(('ann', 'bob', 'cy')), files, (parent,), 'work')

    def some_change(self):
        """The number of a change, often a late or a queued one; now and then there is none."""
        many = len(self.host.changes)
        queued = [entry.change.number for branch in GUARDED for entry in self.queue(branch).entries]
        late = list(range(max(0, many - 8), many))
        return self.random.choice([-1, many, self.random.randrange(many + 1), *late, *queued, *queued])

    def deed(self):
        """Do something, which may be refused."""
        pick = self.random.choice
        number = self.some_change()
        who = pick(PEOPLE)
        if 0 <= number < len(self.host.changes) and pick((True, False)):
            who = self.host.changes[number].author
        commit = self.random.randrange(len(self.host.graph.commits))
        try:
            pick(self.deeds(who, number, commit))()
        except HostError:
            pass
        self.check_ends()

    def deeds(self, who, number, commit):
        """What somebody may do, as functions of nothing."""
        host, pick = self.host, self.random.choice
        return [lambda: host.vote(who, number, pick((1, 1, 1, 1, -1, 0))), lambda: host.land(who, number),
                 lambda: host.vote(who, number, 1), lambda: host.land(who, number),
                 lambda: host.propose(who, pick(GUARDED), self.some_commit()),
                 lambda: host.remark(who, number, pick(PATHS), pick((0, 1, 9)), 'hm'),
                 lambda: [host.settle(name, number, pick((0, 1))) for name in PEOPLE[:4]],
                 lambda: host.move(who, number, pick((commit, self.some_commit()))),
                 lambda: host.drop(who, number) if pick((True, False, False)) else None,
                 lambda: host.push(who, pick(('main', 'rc', 'free')), self.some_commit()),
                 lambda: host.make_branch(who, pick(('main', 'rc')), commit),
                 lambda: host.guard(who, pick(('main', 'rc')), Rules(0)),
                 lambda: host.allow(who, pick(PEOPLE[1:5]), pick(('read', 'write', 'write', None)))
                 if who != 'root' else host.allow('root', pick(('ann', 'bob', 'cy')), 'write')]

    def check_ends(self):
        """No deed changes a guarded branch, or lets a change leave a queue."""
        for branch in GUARDED:
            self.case.assertEqual(self.host.branches[branch].end(), self.ends[branch])
            self.case.assertEqual(len(self.queue(branch).events), self.left[branch])

    def queue(self, branch):
        return self.host.branches[branch].queue

    def lacking(self, change):
        """What a change lacks, found in another way than the host does."""
        rules = self.host.branches[change.branch].rules
        graph, end = self.host.graph, self.ends[change.branch]
        common = [one for one in graph.ancestors(change.head) if one in graph.ancestors(end)]
        latest = [one for one in common if not any(
            one != other and one in graph.ancestors(other) for other in common)][-1]
        before, after = graph.files(latest), graph.files(change.head)
        voters = [name for name, value in change.votes.items() if value == 1]
        found = ['votes'] * (len(voters) < rules.needed) + ['against'] * (-1 in change.votes.values())
        found += ['remarks'] * any(row[-1] for row in change.remarks)
        for path in sorted({*before, *after}):
            owners = rules.owners_of(path)
            if before.get(path) != after.get(path) and owners and not {change.author, *voters} & set(owners):
                found.append('owner ' + path)
        return tuple(found)

    def tick(self):
        before = {branch: [(entry.change, entry.head, entry.change.state, self.lacking(entry.change))
                           for entry in self.queue(branch).entries] for branch in GUARDED}
        landed = {branch: len(self.queue(branch).landed) for branch in GUARDED}
        self.pass_tick()
        for branch in GUARDED:
            self.check_queue(branch, before[branch], self.queue(branch).landed[landed[branch]:])
        self.check_ends()

    def pass_tick(self):
        self.host.tick()

    def check_queue(self, branch, before, landed):
        case, queue = self.case, self.queue(branch)
        events = queue.events[self.left[branch]:]
        stay = [entry.change.number for entry in queue.entries]
        gone = [row[0].number for row in before if row[0].number not in stay]
        case.assertEqual([row[0].number for row in before if row[0].number in stay], stay)
        case.assertEqual(sorted(number for _, _, number in events), sorted(gone))
        case.assertEqual([time for time, _, _ in events], [self.host.time] * len(events))
        case.assertEqual([number for number, _, _ in landed], [row[2] for row in events if row[1] == 'landed'])
        words = {number: word for _, word, number in events}
        for change, head, state, lacking in before:
            word = words.get(change.number)
            self.words[word] = self.words.get(word, 0) + 1
            case.assertEqual(word == 'lacking', state == 'open' and lacking != ())
            if word == 'landed':
                case.assertEqual((change.state, state, change.head, lacking), ('landed', 'open', head, ()))
            elif word == 'moved':
                case.assertTrue(state != 'open' or change.head != head)
            else:
                case.assertEqual(change.state, state)
        for row in landed:
            self.check_landed(branch, *row)
        self.left[branch] += len(events)

    def check_landed(self, branch, number, head, commit):
        case, graph = self.case, self.host.graph
        end, change = self.ends[branch], self.host.changes[number]
        case.assertEqual((change.head, change.branch), (head, branch))
        if graph.comes_from(end, head):
            case.assertEqual(commit, end)
        elif graph.comes_from(head, end):
            case.assertEqual(commit, head)
        else:
            told = graph.commit(commit)
            case.assertEqual((told.parents, told.author, told.message), ((end, head), change.author, f'land {number}'))
            base = graph.files(graph.bases(end, head)[-1])
            merged = merge_files(base, graph.files(end), graph.files(head))
            case.assertTrue(merged.is_clean())
            case.assertEqual(graph.files(commit), merged.value)
        for name in self.jobs:
            case.assertTrue(self.judged[(graph.commit(commit).tree, name)])
        self.ends[branch] = commit


class ConsoleWorld(World):
    """The same of a host to which people talk by lines alone."""

    jobs = ('build', 'test')

    def begin(self):
        self.console = Console('root')
        self.host = self.console.host
        passes = self.host.scheduler.judge

        def judge(name, tree, tried):
            good = passes(name, tree, tried)
            self.case.assertEqual(good, World.judge(self, name, tree, 2))
            return good
        self.host.scheduler.judge = judge
        for line in ['new', *[f'write {path} 1 / 2 / 3 / 4 / 5 / 6' for path in PATHS], 'commit begin', 'branch main 0',
                     'branch rc 0', 'branch free 0', 'guard main 1 d=bob,ann d/f=cy', 'guard rc 0 a=ann', 'allow ann write',
                     'allow bob write', 'allow cy write', 'allow eve read']:
            self.case.assertNotEqual(self.console.enter('root', line), ('error',), line)
        return 0

    def some_text(self, path):
        """The lines of a path at some branch's end, of which one or two are others."""
        lines = list(self.host.graph.files(self.host.branches[self.random.choice(GUARDED)].end()).get(path, ()))
        place = self.random.randrange(len(lines) + 1)
        lines[place:place + self.random.randrange(2)] = [self.random.choice(['x', 'y', 'z', 'w', 'v', 'bad'])]
        return ' / '.join(lines)

    def deeds(self, who, number, commit):
        pick = self.random.choice
        path, branch = pick(PATHS), pick(('main', 'rc', 'free'))
        lines = [f'vote {number} {pick("+++---0")}', f'land {number}', f'vote {number} +', f'land {number}',
                 f'move {number} {commit}', f'drop {number}', f'push {branch} {commit}', f'branch {branch} {commit}',
                 f'merge {commit} {self.random.randrange(commit + 1)}', f'reverse {commit} {commit}', f'erase {path}',
                 f'guard {branch} 0' if branch != 'free' else 'guard', f'lacking {number}', f'queue {branch}', f'show {commit}',
                 f'log {commit}', f'diff {commit} 0 {path}', f'write {path} {self.some_text(path)}', 'commit', 'new',
                 f'allow {pick(PEOPLE[1:5])} {pick(("read", "write", "write", "none"))}', f'propose {branch} {commit}']
        return [lambda: self.say(who, pick(lines)), lambda: self.say(who, pick(lines[:6])), lambda: self.some_work(path),
                lambda: self.say('root', f'allow {pick(("ann", "bob", "cy"))} write')]

    def say(self, who, line):
        many = len(self.host.graph.commits)
        answer = self.console.enter(who, line)
        self.case.assertIsInstance(answer, tuple)
        self.case.assertTrue(all(isinstance(row, str) for row in answer))
        if answer == ('error',):
            self.case.assertEqual(len(self.host.graph.commits), many)
        return answer

    def some_work(self, path):
        """Let somebody propose what they worked on, or let a change end there."""
        who, branch = self.random.choice(('ann', 'bob', 'cy')), self.random.choice(GUARDED)
        self.say(who, f'begin {branch}')
        self.say(who, f'write {path} {self.some_text(path)}')
        number = self.say(who, 'commit work')[0]
        if self.random.random() < 0.3:
            own = [change.number for change in self.host.changes if change.author == who and change.state == 'open']
            self.say(who, f'move {self.random.choice(own) if own else 0} {number}')
        else:
            self.say(who, f'propose {branch} {number}')

    def pass_tick(self):
        time = self.host.time
        self.case.assertEqual(self.console.enter('root', 'go 1'), (str(time + 1),))


class StudioWorld(World):
    """The same of a studio's host, and what is promised of talks, tests and releases."""

    def begin(self):
        first = World.begin(self)
        self.studio = Studio(self.host)
        self.studio.suite.add('unit', ['a', 'd/*'])
        self.studio.suite.add('flow', ['b'], ['unit'])
        self.released = []
        self.at_release = {branch: [] for branch in GUARDED}
        return first

    def some_commit(self):
        """A commit of somebody, with a message of one of the classes."""
        told = self.host.graph.commit(World.some_commit(self))
        message = self.random.choice(('fix: a', 'add: b', 'break: c', 'other'))
        return self.host.commit(told.author, self.host.graph.contents.files(told.tree), told.parents, message)

    def deeds(self, who, number, commit):
        studio, pick = self.studio, self.random.choice
        place = pick((0, 0, 1, 2))
        own = World.deeds(self, who, number, commit)
        return [lambda: pick(own[5:])(), lambda: pick(own[:1] + own[2:3])(), lambda: pick(own[:1] + own[2:3])(),
                lambda: studio.propose(who, pick(GUARDED), self.some_commit()),
                lambda: studio.say(who, number, (pick(PATHS), 0, pick((0, 1, 2))), 'hm'),
                lambda: studio.answer(who, number, place, 'so') if pick((True, False)) else None,
                lambda: self.some_settled(number), lambda: self.some_settled(number),
                lambda: studio.move(who, number, pick((commit, self.some_commit()))),
                lambda: self.some_notes(number), lambda: self.some_notes(number), lambda: self.some_land(who, number),
                lambda: self.some_land(who, number), lambda: self.some_release(pick(GUARDED))]

    def some_settled(self, number):
        for place in self.studio.talk_of(number).said:
            self.studio.settle(self.host.changes[number].author, number, place)

    def some_notes(self, number):
        for test in self.studio.tests_of(number):
            tree = self.host.graph.commit(self.host.changes[number].head).tree
            # A tree is good or bad for a test, but now and then that is told wrongly.
            good = ((tree + len(test)) % 11 != 0) != (self.random.random() < 0.01)
            self.studio.note(self.random.choice(('ann', 'bob')), number, test, good)

    def some_land(self, who, number):
        lacking = self.studio.lacking(number)
        self.studio.land(who, number)
        self.case.assertEqual(lacking, ())

    def some_release(self, branch):
        """Release a branch: all that landed since, in the order of the ticks, and of numbers within each."""
        events = [row for row in self.queue(branch).events if row[1] == 'landed']
        since = [(time, number) for time, _, number in events if number not in self.at_release[branch]]
        rows = []
        for _, number in sorted(since):
            word, rest = class_of(self.host.graph.commit(self.host.changes[number].head).message)
            rows.append((('break', 'add', 'fix', '').index(word), f'- {rest} ({number})'))
        version, lines = self.studio.release('ann', branch)
        expected = [line for kind in range(3) for one, line in rows if one == kind]
        self.case.assertEqual([line for line in lines if line.startswith('- ')], expected)
        self.case.assertNotEqual(expected, [])
        self.at_release[branch] += [number for _, number in since]
        self.released.append((branch, version))

    def pass_tick(self):
        self.studio.tick()


class PromiseTest(unittest.TestCase):
    def check(self, kind, seeds, steps):
        """Let worlds of a kind go on, and return them."""
        words, worlds = {}, []
        for seed in range(seeds):
            with self.subTest(seed):
                world = kind(self, seed)
                worlds.append(world)
                for step in range(steps):
                    world.deed()
                    if step % 5 == 4:
                        world.tick()
                for word, many in world.words.items():
                    words[word] = words.get(word, 0) + many
        # Else the test would say nothing.
        for word in ('landed', 'lacking', 'moved', 'conflict', 'failed', None):
            self.assertGreater(words.get(word, 0), 10, words)
        return worlds

    def test_many_deeds_and_ticks(self):
        self.check(World, 10, 1500)

    def test_through_the_console(self):
        self.check(ConsoleWorld, 10, 2000)

    def test_through_the_studio(self):
        worlds = self.check(StudioWorld, 10, 4000)
        self.assertGreater(sum(len(world.released) for world in worlds), 50)
        for world in worlds:
            for branch in GUARDED:
                versions = [version for one, version in world.released if one == branch]
                self.assertEqual(versions, sorted(set(versions)))


if __name__ == '__main__':
    unittest.main()
