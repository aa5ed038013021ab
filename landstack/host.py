"""Host: people with rights, branches, changes, and a queue for each branch that is guarded."""

from landstack.contents import Contents
from landstack.errors import GraphError, ReviewError, RightError
from landstack.graph import Commit, Graph
from landstack.landing import Queue
from landstack.reviews import Change, lacks

RIGHTS = ('read', 'write', 'admin')
SIGNS = 'abcdefghijklmnopqrstuvwxyz0123456789-'
MOST_SIGNS = 20


def check_plain(name):
    """Raise RightError for what is no name of a person or a branch."""
    if not 0 < len(name) <= MOST_SIGNS or any(sign not in SIGNS for sign in name):
        raise RightError(f'no name: {name}')


class Branch:
    """The commit at a branch's end, its rules, and its queue; both are None where everybody may write."""

    def __init__(self, head):
        self.head = head
        self.rules = None
        self.queue = None

    def end(self):
        """Return the commit at the branch's end."""
        return self.head if self.queue is None else self.queue.head


class Host:
    """A graph, people's rights, branches by name, changes in order, the time, and the checks."""

    def __init__(self, scheduler, owner):
        check_plain(owner)
        self.graph = Graph(Contents())
        self.rights = {owner: 'admin'}
        self.branches = {}
        self.changes = []
        self.time = 0
        self.scheduler = scheduler

    def need(self, name, right):
        """Raise RightError for somebody who has neither a right nor one behind it."""
        given = self.rights.get(name)
        if given is None or RIGHTS.index(given) < RIGHTS.index(right):
            raise RightError(f'{name} may not {right}')

    def branch_of(self, branch):
        """Return a branch; raise GraphError for an unknown one."""
        if branch not in self.branches:
            raise GraphError(f'no such branch: {branch}')
        return self.branches[branch]

    def change_of(self, number):
        """Return a change; raise ReviewError for an unknown one."""
        if not 0 <= number < len(self.changes):
            raise ReviewError(f'no change has the number {number}')
        return self.changes[number]

    def guarded(self):
        """Return all branches that are guarded, in order of names."""
        rows = [self.branches[branch] for branch in sorted(self.branches)]
        return [found for found in rows if found.queue is not None]

    def allow(self, name, other, right):
        """Let an admin give somebody a right, None to take it away; there is always an admin."""
        self.need(name, 'admin')
        check_plain(other)
        if right is not None and right not in RIGHTS:
            raise RightError(f'no right: {right}')
        admins = [person for person in self.rights if self.rights[person] == 'admin']
        if right != 'admin' and admins == [other]:
            raise RightError('no admin would be left')
        if right is None:
            self.rights.pop(other, None)
        else:
            self.rights[other] = right

    def commit(self, name, files, parents, message):
        """Return the number of a new commit of somebody."""
        self.need(name, 'write')
        tree = self.graph.contents.put_files(files)
        return self.graph.add(Commit(tree, parents, name, self.time, message))

    def make_branch(self, name, branch, number):
        """Let somebody make a branch that ends at a commit; raise GraphError if it is there."""
        self.need(name, 'write')
        check_plain(branch)
        if branch in self.branches:
            raise GraphError(f'the branch is there: {branch}')
        self.graph.commit(number)
        self.branches[branch] = Branch(number)

    def guard(self, name, branch, rules, depth=3):
        """Let an admin guard a branch: it changes by landed changes alone from now on."""
        self.need(name, 'admin')
        found = self.branch_of(branch)
        if found.queue is not None or depth < 1:
            raise GraphError(f'the branch is guarded, or no depth: {branch}, {depth}')
        found.rules = rules
        found.queue = Queue(self.graph, found.head, self.scheduler, depth)

    def push(self, name, branch, number):
        """Let somebody move the end of a branch that is not guarded, to a commit that comes from it."""
        self.need(name, 'write')
        found = self.branch_of(branch)
        if found.queue is not None:
            raise RightError(f'the branch is guarded: {branch}')
        if not self.graph.comes_from(number, found.head):
            raise GraphError(f'the branch would lose commits: {branch}')
        found.head = number

    def propose(self, name, branch, number):
        """Let somebody propose a commit for a guarded branch, and return the change's number."""
        self.need(name, 'write')
        if self.branch_of(branch).queue is None:
            raise ReviewError(f'the branch is not guarded: {branch}')
        self.graph.commit(number)
        change = Change(len(self.changes), name, branch, number)
        self.changes.append(change)
        return change.number

    def vote(self, name, number, value):
        """Let somebody vote on a change."""
        self.need(name, 'write')
        self.change_of(number).vote(name, value)

    def remark(self, name, number, path, line, text):
        """Let somebody remark on a line of a change's text, and return its number; ReviewError for no line."""
        self.need(name, 'read')
        change = self.change_of(number)
        lines = self.graph.files(change.head).get(path)
        if lines is None or not 0 <= line < len(lines):
            raise ReviewError(f'no such line: {path}, {line}')
        return change.remark(name, path, line, text)

    def settle(self, name, number, place):
        """Let a change's author, or who made a remark, settle it."""
        self.need(name, 'read')
        change = self.change_of(number)
        remarks = change.remarks
        if not 0 <= place < len(remarks) or name not in (change.author, remarks[place][0]):
            raise ReviewError(f'{name} has no remark with the number {place} to settle')
        change.settle(place)

    def own_change(self, name, number):
        """Return a change of somebody who may write; raise RightError for another one's."""
        self.need(name, 'write')
        change = self.change_of(number)
        if name != change.author:
            raise RightError(f'change {number} is not of {name}')
        return change

    def move(self, name, number, head):
        """Let a change's author let it end elsewhere; if it is queued, it leaves the queue at its turn."""
        change = self.own_change(name, number)
        same = self.graph.commit(head).tree == self.graph.commit(change.head).tree
        change.move(head, same or self.branch_of(change.branch).rules.sticky)

    def drop(self, name, number):
        """Let a change's author, or an admin, drop it."""
        self.need(name, 'write')
        change = self.change_of(number)
        if name != change.author:
            self.need(name, 'admin')
        change.state_to('dropped')

    def paths_of(self, change):
        """Return the paths by which a change differs from its latest common base with the branch, ascending."""
        bases = self.graph.bases(change.head, self.branch_of(change.branch).end())
        tree = self.graph.commit(change.head).tree
        if bases == ():
            return tuple(path for path, _ in self.graph.contents.paths(tree))
        return self.graph.contents.changed_paths(self.graph.commit(bases[-1]).tree, tree)

    def lacking(self, number):
        """Return what a change still lacks, as words."""
        change = self.change_of(number)
        return lacks(change, self.branch_of(change.branch).rules, self.paths_of(change))

    def land(self, name, number):
        """Let somebody queue a change that lacks nothing; raise ReviewError if it lacks something or is not open."""
        self.need(name, 'write')
        change = self.change_of(number)
        change.check_open()
        if self.lacking(number) != ():
            raise ReviewError(f'change {number} lacks something')
        self.branch_of(change.branch).queue.add(change)

    def tick(self):
        """Let time pass: queues let those out that lack something and build, checks go on, then queues land."""
        self.time += 1
        for branch in self.guarded():
            self.let_out(branch.queue)
            branch.queue.build(self.time)
        self.give_up()
        self.scheduler.tick()
        for branch in self.guarded():
            branch.queue.land_known(self.time)
            branch.head = branch.queue.head

    def let_out(self, queue):
        """Let open changes that lack something go out of a queue."""
        for entry in list(queue.entries):
            if entry.change.state == 'open' and self.lacking(entry.change.number) != ():
                queue.leave(entry, 'lacking', self.time)

    def give_up(self):
        """Give up checks that no queue waits for."""
        waited = {tree: True for branch in self.guarded() for tree in branch.queue.trees()}
        for tree in self.scheduler.asked():
            if tree not in waited:
                self.scheduler.cancel(tree)
