"""Point 1, the main promise, over many deeds of several people on guarded branches.

A guarded branch changes by landed changes alone; each that lands lacked nothing at the beginning of that tick, joins
the branch's end just as the merge says, and its joined files passed all checks; every queued change lands or goes
out, once.
"""

import random
import unittest

from landstack.checks import Job, Plan, Scheduler
from landstack.errors import HostError
from landstack.host import Host
from landstack.merging import merge_files
from landstack.reviews import Rules

PEOPLE = ('root', 'ann', 'bob', 'cy', 'eve', 'mallory')
PATHS = ('a', 'b', 'd/e', 'd/f')
GUARDED = ('main', 'rc')


class World:
    """A host, with what is checked of it after each deed and each tick."""

    def __init__(self, case, seed):
        self.case = case
        self.random = random.Random(seed)
        jobs = [Job('build', (), 2), Job('lint'), Job('test', ('build',), 1, 2)]
        self.host = Host(Scheduler(Plan(jobs), 2, self.judge), 'root')
        self.judged = {}
        for name in ('ann', 'bob', 'cy'):
            self.host.allow('root', name, 'write')
        self.host.allow('root', 'eve', 'read')
        first = self.host.commit('root', {path: tuple('123456') for path in PATHS}, (), 'begin')
        for branch, rules, depth in [('main', Rules(1, {'d': ('bob', 'ann'), 'd/f': ('cy',)}), 2),
                                     ('rc', Rules(0, {'a': ('ann',)}, True), 3)]:
            self.host.make_branch('root', branch, first)
            self.host.guard('root', branch, rules, depth)
        self.host.make_branch('root', 'free', first)
        self.ends = {branch: first for branch in GUARDED}
        self.left = {branch: 0 for branch in GUARDED}
        self.words = {}

    def judge(self, name, tree, tried):
        lines = [line for text in self.host.graph.contents.files(tree).values() for line in text]
        good = not ('bad' in lines or (name == 'test' and 'flaky' in lines and tried == 1))
        self.judged[(tree, name)] = good
        return good

    def some_commit(self):
        """A commit of somebody who may write, which changes a few lines of another commit."""
        parent = self.random.randrange(len(self.host.graph.commits))
        if self.random.random() < 0.6:
            parent = self.host.branches[self.random.choice(GUARDED)].end()
        files = dict(self.host.graph.files(parent))
        for _ in range(self.random.randrange(1, 3)):
            path = self.random.choice(PATHS)
            lines = list(files.get(path, ()))
            place = self.random.randrange(len(lines) + 1)
            word = self.random.choice(['x', 'y', 'z', 'w', 'v', 'flaky', 'bad'])
            lines[place:place + self.random.randrange(2)] = [word]
            files[path] = tuple(lines)
        if self.random.random() < 0.1:
            files.pop(self.random.choice(PATHS), None)
        return self.host.commit(self.random.choice(('ann', 'bob', 'cy')), files, (parent,), 'work')

    def some_change(self):
        """The number of a change, often a late or a queued one; now and then there is none."""
        many = len(self.host.changes)
        queued = [entry.change.number for branch in GUARDED for entry in self.queue(branch).entries]
        late = list(range(max(0, many - 8), many))
        return self.random.choice([-1, many, self.random.randrange(many + 1), *late, *queued, *queued])

    def deed(self):
        """Do something, which may be refused."""
        host, pick = self.host, self.random.choice
        number = self.some_change()
        who = pick(PEOPLE)
        if 0 <= number < len(host.changes) and pick((True, False)):
            who = host.changes[number].author
        commit = self.random.randrange(len(host.graph.commits))
        deeds = [lambda: host.vote(who, number, pick((1, 1, 1, 1, -1, 0))), lambda: host.land(who, number),
                 lambda: host.vote(who, number, 1), lambda: host.land(who, number),
                 lambda: host.propose(who, pick(GUARDED), self.some_commit()),
                 lambda: host.remark(who, number, pick(PATHS), pick((0, 1, 9)), 'hm'),
                 lambda: [host.settle(name, number, pick((0, 1))) for name in PEOPLE[:4]],
                 lambda: host.move(who, number, pick((commit, self.some_commit()))),
                 lambda: host.drop(who, number) if pick((True, False, False)) else None,
                 lambda: host.push(who, pick(('main', 'rc', 'free')), self.some_commit()),
                 lambda: host.make_branch(who, pick(('main', 'rc')), commit),
                 lambda: host.guard(who, pick(('main', 'rc')), Rules(0)),
                 lambda: host.allow(who, pick(PEOPLE[1:5]), pick(('read', 'write', 'write', None)))
                 if who != 'root' else host.allow('root', pick(('ann', 'bob', 'cy')), 'write')]
        try:
            pick(deeds)()
        except HostError:
            pass
        self.check_ends()

    def check_ends(self):
        """No deed changes a guarded branch, or lets a change leave a queue."""
        for branch in GUARDED:
            self.case.assertEqual(self.host.branches[branch].end(), self.ends[branch])
            self.case.assertEqual(len(self.queue(branch).events), self.left[branch])

    def queue(self, branch):
        return self.host.branches[branch].queue

    def lacking(self, change):
        """What a change lacks, found in another way than the host does."""
        rules = self.host.branches[change.branch].rules
        graph, end = self.host.graph, self.ends[change.branch]
        common = [one for one in graph.ancestors(change.head) if one in graph.ancestors(end)]
        latest = [one for one in common if not any(
            one != other and one in graph.ancestors(other) for other in common)][-1]
        before, after = graph.files(latest), graph.files(change.head)
        voters = [name for name, value in change.votes.items() if value == 1]
        found = ['votes'] * (len(voters) < rules.needed) + ['against'] * (-1 in change.votes.values())
        found += ['remarks'] * any(row[-1] for row in change.remarks)
        for path in sorted({*before, *after}):
            owners = rules.owners_of(path)
            if before.get(path) != after.get(path) and owners and not {change.author, *voters} & set(owners):
                found.append('owner ' + path)
        return tuple(found)

    def tick(self):
        before = {branch: [(entry.change, entry.head, entry.change.state, self.lacking(entry.change))
                           for entry in self.queue(branch).entries] for branch in GUARDED}
        landed = {branch: len(self.queue(branch).landed) for branch in GUARDED}
        self.host.tick()
        for branch in GUARDED:
            self.check_queue(branch, before[branch], self.queue(branch).landed[landed[branch]:])
        self.check_ends()

    def check_queue(self, branch, before, landed):
        case, queue = self.case, self.queue(branch)
        events = queue.events[self.left[branch]:]
        stay = [entry.change.number for entry in queue.entries]
        gone = [row[0].number for row in before if row[0].number not in stay]
        case.assertEqual([row[0].number for row in before if row[0].number in stay], stay)
        case.assertEqual(sorted(number for _, _, number in events), sorted(gone))
        case.assertEqual([time for time, _, _ in events], [self.host.time] * len(events))
        case.assertEqual([number for number, _, _ in landed], [row[2] for row in events if row[1] == 'landed'])
        words = {number: word for _, word, number in events}
        for change, head, state, lacking in before:
            word = words.get(change.number)
            self.words[word] = self.words.get(word, 0) + 1
            case.assertEqual(word == 'lacking', state == 'open' and lacking != ())
            if word == 'landed':
                case.assertEqual((change.state, state, change.head, lacking), ('landed', 'open', head, ()))
            elif word == 'moved':
                case.assertTrue(state != 'open' or change.head != head)
            else:
                case.assertEqual(change.state, state)
        for row in landed:
            self.check_landed(branch, *row)
        self.left[branch] += len(events)

    def check_landed(self, branch, number, head, commit):
        case, graph = self.case, self.host.graph
        end, change = self.ends[branch], self.host.changes[number]
        case.assertEqual((change.head, change.branch), (head, branch))
        if graph.comes_from(end, head):
            case.assertEqual(commit, end)
        elif graph.comes_from(head, end):
            case.assertEqual(commit, head)
        else:
            told = graph.commit(commit)
            case.assertEqual((told.parents, told.author, told.message), ((end, head), change.author, f'land {number}'))
            base = graph.files(graph.bases(end, head)[-1])
            merged = merge_files(base, graph.files(end), graph.files(head))
            case.assertTrue(merged.is_clean())
            case.assertEqual(graph.files(commit), merged.value)
        for name in ('build', 'lint', 'test'):
            case.assertTrue(self.judged[(graph.commit(commit).tree, name)])
        self.ends[branch] = commit


class PromiseTest(unittest.TestCase):
    def test_many_deeds_and_ticks(self):
        words = {}
        for seed in range(10):
            with self.subTest(seed):
                world = World(self, seed)
                for step in range(1500):
                    world.deed()
                    if step % 5 == 4:
                        world.tick()
                for word, many in world.words.items():
                    words[word] = words.get(word, 0) + many
        # Else the test would say nothing.
        for word in ('landed', 'lacking', 'moved', 'conflict', 'failed', None):
            self.assertGreater(words.get(word, 0), 10, words)


if __name__ == '__main__':
    unittest.main()
