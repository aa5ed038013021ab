"""Packs: commits with their contents as lines, which another graph takes over."""

from landstack.contents import Contents
from landstack.errors import ContentError, GraphError, PatchError
from landstack.graph import Commit, Graph

FIRST = '#commits'
LAST = 'end'
PARENT = 'parent '
MESSAGE = 'message '
PACKED = '@'
KNOWN = '='
DIGITS = '0123456789'
MOST_DIGITS = 7


def pack_lines(graph, numbers):
    """Return the lines of commits, parents first: those that are packed as "@place", others as "=number".

    A commit is "commit author time", its parents, its message, its files and "end".
    """
    packed = sorted(set(numbers))
    places = {number: place for place, number in enumerate(packed)}
    lines = [FIRST]
    for number in packed:
        lines.extend(commit_lines(graph, number, places))
    return tuple(lines)


def commit_lines(graph, number, places):
    """Return the lines of a commit by the places of all commits that are packed."""
    commit = graph.commit(number)
    lines = [f'commit {commit.author} {commit.time}']
    for parent in commit.parents:
        told = f'{PACKED}{places[parent]}' if parent in places else f'{KNOWN}{parent}'
        lines.append(PARENT + told)
    lines.append(MESSAGE + commit.message)
    files = graph.files(number)
    for path in sorted(files):
        lines.append(f'file {path} {len(files[path])}')
        lines.extend([' ' + line for line in files[path]])
    lines.append(LAST)
    return lines


def number_of(text):
    """Return the number of one to seven digits without a needless 0; raise PatchError for another text."""
    if not 0 < len(text) <= MOST_DIGITS or any(sign not in DIGITS for sign in text):
        raise PatchError(f'no number: {text}')
    if len(text) > 1 and text[0] == '0':
        raise PatchError(f'a needless 0: {text}')
    return int(text)


class PackReader:
    """Lines, a place in them, the graph that takes them over, numbers of what was read, and of what is known."""

    def __init__(self, lines, graph, known):
        self.lines = tuple(lines)
        self.place = 0
        self.graph = graph
        self.numbers = []
        self.known = known

    def read_all(self):
        """Return the numbers of all commits; raise PatchError for lines that are no pack."""
        self.place = 0
        self.numbers = []
        if self.take() != FIRST:
            raise PatchError('a pack does not begin so')
        try:
            while self.place < len(self.lines):
                self.numbers.append(self.read_commit())
        except (ContentError, GraphError):
            raise PatchError('no pack: a commit in it cannot be kept')
        return tuple(self.numbers)

    def take(self):
        """Return the line at hand, and go on; raise PatchError behind the last one."""
        if self.place == len(self.lines):
            raise PatchError('a pack ends too early')
        self.place += 1
        return self.lines[self.place - 1]

    def take_words(self, first):
        """Return both words behind a first one in the line at hand, and go on; raise PatchError for others."""
        words = self.take().split(' ')
        if len(words) != 3 or words[0] != first:
            raise PatchError(f'no line of a pack: {words}')
        return words[1], words[2]

    def take_behind(self, beginning):
        """Return what stands behind a beginning in the line at hand, and go on; raise PatchError for others."""
        line = self.take()
        if not line.startswith(beginning):
            raise PatchError(f'no line of a pack: {line}')
        return line[len(beginning):]

    def next_begins(self, beginning):
        """Return True if there is a line at hand that begins so."""
        return self.place < len(self.lines) and self.lines[self.place].startswith(beginning)

    def read_commit(self):
        """Take over the commit at hand, and return its number."""
        author, time = self.take_words('commit')
        parents = []
        while self.next_begins(PARENT):
            parents.append(self.read_parent())
        message = self.take_behind(MESSAGE)
        files = {}
        while self.next_begins('file '):
            path, many = self.take_words('file')
            if path in files:
                raise PatchError(f'a file is packed twice: {path}')
            files[path] = tuple([self.take_behind(' ') for _ in range(number_of(many))])
        if self.take() != LAST:
            raise PatchError('a commit does not end so')
        made = number_of(time)
        tree = self.graph.contents.put_files(files)
        return self.graph.add(Commit(tree, parents, author, made, message))

    def read_parent(self):
        """Return the number of the parent at hand; raise PatchError for one that is neither packed nor known."""
        told = self.take_behind(PARENT)
        number = number_of(told[1:])
        if told[0] == PACKED and number < len(self.numbers):
            return self.numbers[number]
        if told[0] == KNOWN and number in self.known:
            return self.known[number]
        raise PatchError(f'a parent is not there: {told}')


class Clone:
    """A graph of its own, a branch's end, and which commits of another graph it has, by their numbers there."""

    def __init__(self):
        self.graph = Graph(Contents())
        self.head = None
        self.known = {}

    def end_at(self, number):
        """Let the own branch end at a commit of the own graph."""
        self.head = number

    def fetch(self, graph, number):
        """Take over a commit of another graph and all that it comes from; return its number here."""
        missing = [other for other in graph.ancestors(number) if other not in self.known]
        taken = PackReader(pack_lines(graph, missing), self.graph, self.known).read_all()
        for other, own in zip(missing, taken):
            self.known[other] = own
        return self.known[number]

    def push(self, graph):
        """Let another graph take over the end of the own branch; return its number there; raise GraphError for none."""
        if self.head is None:
            raise GraphError('the own branch has no end')
        there = {own: other for other, own in self.known.items()}
        missing = [own for own in self.graph.ancestors(self.head) if own not in there]
        taken = PackReader(pack_lines(self.graph, missing), graph, there).read_all()
        for own, other in zip(missing, taken):
            there[own] = other
            self.known[other] = own
        return there[self.head]
