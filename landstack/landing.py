"""Landing: a queue in which changes are joined one onto another, checked, and land in order."""

from landstack.errors import ContentError, ReviewError
from landstack.history import merge_commits


class Entry:
    """A change, the end it had when it was queued, the commit that joins it to those before it, and what that is on."""

    def __init__(self, change):
        self.change = change
        self.head = change.head
        self.candidate = None
        self.onto = None

    def stands(self):
        """Return True if the change is open and ends where it did when it was queued."""
        return self.change.state == 'open' and self.change.head == self.head


class Queue:
    """A host's graph, a branch's end, the checks, entries in order, how many are checked at once, and what happened."""

    def __init__(self, graph, head, scheduler, depth=3):
        self.graph = graph
        self.head = head
        self.scheduler = scheduler
        self.depth = depth
        self.entries = []
        self.events = []
        self.landed = []

    def add(self, change):
        """Queue a change; raise ReviewError if it is queued."""
        if any(entry.change.number == change.number for entry in self.entries):
            raise ReviewError(f'change {change.number} is queued')
        self.entries.append(Entry(change))

    def leave(self, entry, word, time):
        """Let an entry go out, and note why."""
        self.entries.remove(entry)
        self.events.append((time, word, entry.change.number))

    def build(self, time):
        """Join the first entries one onto another, from the branch's end on; those that conflict go out."""
        end = self.head
        joined = 0
        while joined < self.depth and joined < len(self.entries):
            entry = self.entries[joined]
            if not entry.stands():
                self.leave(entry, 'moved', time)
            elif not self.bring(entry, end, time):
                self.leave(entry, 'conflict', time)
            else:
                end = entry.candidate
                self.scheduler.ask(self.tree_of(entry))
                joined += 1

    def bring(self, entry, end, time):
        """Join an entry onto a commit; return False if it conflicts, or gives too long a text."""
        # What stands there already is kept: else each tick would put another commit of the same files into the graph.
        if entry.onto == end:
            return True
        change = entry.change
        try:
            number, _ = merge_commits(self.graph, end, entry.head, change.author, time, f'land {change.number}')
        except ContentError:
            number = None
        entry.candidate = number
        entry.onto = None if number is None else end
        return number is not None

    def tree_of(self, entry):
        """Return the tree that is checked for an entry, None before it is joined."""
        return None if entry.candidate is None else self.graph.commit(entry.candidate).tree

    def trees(self):
        """Return the trees for whose checks entries wait, in order."""
        return [self.tree_of(entry) for entry in self.entries if entry.candidate is not None]

    def outcome(self, entry):
        """Return what came of an entry's checks, None if that is not known yet."""
        return self.scheduler.outcomes.get(self.tree_of(entry))

    def land(self, entry, time):
        """Let the branch end at an entry's commit."""
        entry.change.state_to('landed')
        self.head = entry.candidate
        self.landed.append((entry.change.number, entry.head, entry.candidate))
        self.leave(entry, 'landed', time)

    def land_known(self, time):
        """Let the first entries land or go out, as far as it is known what came of their checks."""
        while self.entries != [] and self.entries[0].onto == self.head:
            entry = self.entries[0]
            outcome = self.outcome(entry)
            if outcome is None:
                break
            if outcome == 'passed':
                self.land(entry, time)
            else:
                self.leave(entry, 'failed', time)
            self.build(time)
