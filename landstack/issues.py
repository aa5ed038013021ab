"""Issues: what is to be done, who does it, what it waits for, and how far it is."""

from landstack.errors import IssueError

STATES_OF_ISSUES = ('open', 'doing', 'review', 'done', 'dropped')
OVER = ('done', 'dropped')
STEPS = (('open', 'doing'), ('doing', 'open'), ('doing', 'review'), ('review', 'doing'), ('review', 'done'),
         ('open', 'dropped'), ('doing', 'dropped'), ('done', 'open'), ('dropped', 'open'))
MOST_TITLE = 80
MOST_LABEL = 20
MOST_LABELS = 10


class Issue:
    """A number, a title, who told it, who does it or None, a state, labels, and the numbers of what it waits for."""

    def __init__(self, number, title, author):
        self.number = number
        self.title = title
        self.author = author
        self.doer = None
        self.state = 'open'
        self.labels = []
        self.waits_for = []

    def shown(self):
        """Return (number, title, author, doer, state, labels, what it waits for)."""
        labels, waits = tuple(sorted(self.labels)), tuple(sorted(self.waits_for))
        return self.number, self.title, self.author, self.doer, self.state, labels, waits

    def is_over(self):
        """Return True if nothing is left to be done."""
        return self.state in OVER


class Tracker:
    """Issues from 1 on, and all that happened: (time, who, number, word, rest)."""

    def __init__(self):
        self.issues = {}
        self.events = []
        self.time = 0

    def issue(self, number):
        """Return an issue; raise IssueError for an unknown one."""
        if number not in self.issues:
            raise IssueError(f'no issue has the number {number}')
        return self.issues[number]

    def note(self, who, number, word, rest):
        """Let time go on by 1, and note that something happened: the first event has the time 1."""
        self.time += 1
        self.events.append((self.time, who, number, word, rest))

    def add(self, who, title):
        """Add an issue and return its number; raise IssueError for a title of no or too many characters."""
        if not 0 < len(title) <= MOST_TITLE:
            raise IssueError(f'no title: {title}')
        number = len(self.issues) + 1
        self.issues[number] = Issue(number, title, who)
        self.note(who, number, 'add', title)
        return number

    def give(self, who, number, doer):
        """Let somebody do an issue, None for nobody; raise IssueError for one that is done or dropped."""
        one = self.issue(number)
        if one.is_over():
            raise IssueError(f'issue {number} is {one.state}')
        one.doer = doer
        self.note(who, number, 'give', doer)

    def step(self, who, number, state):
        """Bring an issue into another state; raise IssueError if that is no step.

        Doing needs a doer, and that all that it waits for is done or dropped; done needs another one than the doer.
        """
        one = self.issue(number)
        if (one.state, state) not in STEPS:
            raise IssueError(f'no step of issue {number}: {state}')
        if state == 'doing' and (one.doer is None or self.held_by(number) != ()):
            raise IssueError(f'issue {number} cannot be begun')
        if state == 'done' and who == one.doer:
            raise IssueError(f'another one than {who} has to say that issue {number} is done')
        one.state = state
        self.note(who, number, 'step', state)

    def label(self, who, number, label):
        """Put a label on an issue, or take it off if it is there; IssueError for a bad one, or one too many."""
        one = self.issue(number)
        if not 0 < len(label) <= MOST_LABEL or ' ' in label:
            raise IssueError(f'no label: {label}')
        if label in one.labels:
            one.labels.remove(label)
        elif len(one.labels) < MOST_LABELS:
            one.labels = sorted([*one.labels, label])
        else:
            raise IssueError(f'issue {number} has too many labels')
        self.note(who, number, 'label', label)

    def wait(self, who, number, other):
        """Let an issue wait for another one; raise IssueError for a ring, one that waits already, or one begun."""
        one = self.issue(number)
        if other in one.waits_for or number == other or number in self.all_waits(other) or one.state != 'open':
            raise IssueError(f'issue {number} cannot wait for {other}')
        one.waits_for.append(other)
        self.note(who, number, 'wait', other)

    def all_waits(self, number):
        """Return the numbers of all that an issue waits for, by others too, ascending."""
        found = {}
        waiting = list(self.issue(number).waits_for)
        while waiting:
            here = waiting.pop()
            if here not in found:
                found[here] = True
                waiting.extend(self.issue(here).waits_for)
        return tuple(sorted(found))

    def held_by(self, number):
        """Return the numbers of what an issue waits for that is neither done nor dropped, ascending."""
        waits = self.issue(number).waits_for
        return tuple(other for other in sorted(waits) if not self.issue(other).is_over())

    def ready(self):
        """Return the numbers of open issues that wait for nothing any more, those first that hold up most."""
        holds = {number: 0 for number in self.issues}
        for number in self.issues:
            for other in self.all_waits(number):
                holds[other] += 1
        rows = [(-holds[number], number) for number, one in self.issues.items()
                if one.state == 'open' and self.held_by(number) == ()]
        return tuple(number for _, number in sorted(rows))

    def board(self):
        """Return (state, numbers ascending) of all states, in their order."""
        return tuple((state, tuple([number for number in sorted(self.issues) if self.issues[number].state == state]))
                     for state in STATES_OF_ISSUES)

    def long_row(self):
        """Return the longest row of open work, each waiting for the one before, the least numbers of equals."""
        # Rows that end at an issue: those of what it waits for are known ahead of it.
        rows = {}
        for number in self.in_order():
            if not self.issue(number).is_over():
                behind = [rows[other] for other in self.held_by(number)]
                rows[number] = (*first_longest(behind), number)
        return first_longest(list(rows.values()))

    def in_order(self):
        """Return all numbers, each behind what it waits for, the least first that can stand."""
        placed = {}
        left = sorted(self.issues)
        while left:
            here = min([number for number in left if all([other in placed for other in self.issue(number).waits_for])])
            placed[here] = True
            left.remove(here)
        return list(placed)


def first_longest(rows):
    """Return the longest of some rows, the least one of equals, an empty one without any."""
    ordered = sorted([(-len(row), row) for row in rows])
    return ordered[0][1] if ordered else ()
