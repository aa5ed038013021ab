"""Reviews: changes that somebody wants to land, votes on them, and rules that say which votes they need."""

from landstack.contents import folders_of
from landstack.errors import ReviewError

MOST_NEEDED = 9
OPEN = 'open'
ENDS_OF_CHANGES = ('landed', 'dropped')


class Rules:
    """How many votes a change needs, owners by the beginning of paths, and whether votes stay when the end is moved."""

    def __init__(self, needed=1, owners=(), sticky=False):
        if not 0 <= needed <= MOST_NEEDED:
            raise ReviewError(f'no number of votes: {needed}')
        self.needed = needed
        self.owners = dict(owners)
        self.sticky = sticky

    def owners_of(self, path):
        """Return the owners of a path: those of the longest beginning that fits, by whole names; none without one."""
        for beginning in (path, *folders_of(path)[::-1], ''):
            if beginning in self.owners:
                return tuple(self.owners[beginning])
        return ()


class Change:
    """A number, who wants it, the branch it is for, its end, its state, votes by name, and remarks.

    A remark is (name, path, line, text, True while it is open).
    """

    def __init__(self, number, author, branch, head):
        self.number = number
        self.author = author
        self.branch = branch
        self.head = head
        self.state = OPEN
        self.votes = {}
        self.remarks = []

    def check_open(self):
        """Raise ReviewError for a change that is landed or dropped: it takes nothing any more."""
        if self.state != OPEN:
            raise ReviewError(f'change {self.number} is {self.state}')

    def state_to(self, state):
        """Let an open change be "landed" or "dropped"."""
        self.check_open()
        if state not in ENDS_OF_CHANGES:
            raise ReviewError(f'no end of a change: {state}')
        self.state = state

    def vote(self, name, value):
        """Note a vote: 1 for, -1 against, 0 takes one back; raise ReviewError for others, and the author's."""
        self.check_open()
        if value not in (1, 0, -1) or name == self.author:
            raise ReviewError(f'no vote of {name}: {value}')
        if value == 0:
            self.votes.pop(name, None)
        else:
            self.votes[name] = value

    def remark(self, name, path, line, text):
        """Note a remark, and return its number; it counts as open until it is settled."""
        self.check_open()
        self.remarks.append((name, path, line, text, True))
        return len(self.remarks) - 1

    def settle(self, place):
        """Settle a remark; raise ReviewError for an unknown one, or a change that is not open."""
        self.check_open()
        if not 0 <= place < len(self.remarks):
            raise ReviewError(f'no remark has the number {place}')
        name, path, line, text, _ = self.remarks[place]
        self.remarks[place] = (name, path, line, text, False)

    def move(self, head, keep):
        """Let the change end elsewhere; votes for it go unless they are kept."""
        self.check_open()
        self.head = head
        if not keep:
            self.votes = {name: value for name, value in self.votes.items() if value != 1}

    def supporters(self):
        """Return who voted for the change, ascending."""
        return [name for name in sorted(self.votes) if self.votes[name] == 1]


def lacks(change, rules, paths):
    """Return what a change still lacks, as words: "votes", "against", "remarks", and "owner path" for each path."""
    words = []
    supporters = change.supporters()
    if len(supporters) < rules.needed:
        words.append('votes')
    if -1 in list(change.votes.values()):
        words.append('against')
    if any(row[-1] for row in change.remarks):
        words.append('remarks')
    backers = [change.author, *supporters]
    for path in paths:
        owners = rules.owners_of(path)
        if owners and not any(name in owners for name in backers):
            words.append('owner ' + path)
    return tuple(words)
