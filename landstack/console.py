"""Console: lines that people say to a host, and its answers."""

from landstack.checks import Job, Plan, Scheduler
from landstack.contents import parts_of_path
from landstack.difference import DIGITS, counts, patch_between, patch_text
from landstack.errors import ContentError, GraphError, HostError, ReviewError
from landstack.history import log_lines, merge_commits, reverse
from landstack.host import Host, check_plain
from landstack.reviews import Rules

WORKERS = 2
MOST_DIGITS_OF_NUMBERS = 6
BETWEEN_LINES = ' / '
VOTES = {'+': 1, '-': -1, '0': 0}
NO_RIGHT = 'none'


def whole(text):
    """Return the number of one to six digits; raise GraphError for another text."""
    if not 0 < len(text) <= MOST_DIGITS_OF_NUMBERS or any(sign not in DIGITS for sign in text):
        raise GraphError(f'no number: {text}')
    return int(text)


class Console:
    """A host, files that each person is working on with the commit that they come from, by name."""

    def __init__(self, owner, word='bad'):
        plan = Plan([Job('build', (), 2), Job('test', ('build',), 1, 2)])
        self.word = word
        self.host = Host(Scheduler(plan, WORKERS, self.passes), owner)
        self.works = {}

    def passes(self, name, tree, tried):
        """Return True if a job may pass: no line of a tree has the word that is not wanted."""
        texts = list(self.host.graph.contents.files(tree).values())
        return not any(self.word in line for lines in texts for line in lines)

    def work_of(self, name):
        """Return the (files, parents) that somebody works on; raise GraphError if nothing was begun."""
        if name not in self.works:
            raise GraphError(f'{name} has begun nothing')
        return self.works[name]

    def enter(self, name, line):
        """Carry out a line that somebody says, and return the answer as lines; ("error",) for one that cannot be."""
        try:
            return answer_to(self, name, line.split(' '))
        except HostError:
            return ('error',)


def answer_to(console, name, words):
    """Return the answer to the words of a line; raise GraphError for what is no line."""
    word, rest = words[0], words[1:]
    if word not in ACTIONS:
        raise GraphError(f'no line begins with {word}')
    least, most = NUMBERS_OF_WORDS[word]
    if len(rest) < least or (most is not None and len(rest) > most):
        raise GraphError(f'too few or too many words behind {word}')
    action = ACTIONS[word]
    return action(console, name, rest)


def joined_or_conflicts(number, conflicts):
    """Return the answer that tells a commit, or the paths because of which there is none."""
    if number is None:
        return tuple([f'conflict {path}' for path in conflicts])
    return (str(number),)


def begin(console, name, words):
    """Begin to work on the files of a branch's end, and tell its commit."""
    console.host.need(name, 'read')
    end = console.host.branch_of(words[0]).end()
    console.works[name] = (console.host.graph.files(end), (end,))
    return (str(end),)


def begin_anew(console, name, words):
    """Begin to work on no files, which come from no commit."""
    console.host.need(name, 'write')
    console.works[name] = ({}, ())
    return ('new',)


def write(console, name, words):
    """Put lines, which are parted by " / ", into the files that somebody works on."""
    files, parents = console.work_of(name)
    parts_of_path(words[0])
    text = ' '.join(words[1:])
    lines = () if text == '' else tuple(text.split(BETWEEN_LINES))
    console.works[name] = ({**files, words[0]: lines}, parents)
    return ('write',)


def erase(console, name, words):
    """Take a path out of the files that somebody works on."""
    files, parents = console.work_of(name)
    if words[0] not in files:
        raise ContentError(f'no such path: {words[0]}')
    console.works[name] = ({path: lines for path, lines in files.items() if path != words[0]}, parents)
    return ('erase',)


def commit(console, name, words):
    """Keep the files that somebody works on as a commit, on which the work goes on, and tell its number."""
    files, parents = console.work_of(name)
    message = ' '.join(words)
    if message == '':
        raise GraphError('no message')
    number = console.host.commit(name, files, parents, message)
    console.works[name] = (files, (number,))
    return (str(number),)


def branch(console, name, words):
    """Make a branch."""
    console.host.make_branch(name, words[0], whole(words[1]))
    return ('made',)


def push(console, name, words):
    """Move the end of a branch that is not guarded."""
    console.host.push(name, words[0], whole(words[1]))
    return ('pushed',)


def merge(console, name, words):
    """Join two commits."""
    host = console.host
    host.need(name, 'write')
    one, other = whole(words[0]), whole(words[1])
    number, conflicts = merge_commits(host.graph, one, other, name, host.time, f'merge {one} {other}')
    return joined_or_conflicts(number, conflicts)


def take_back(console, name, words):
    """Take back on one commit what another one did."""
    host = console.host
    host.need(name, 'write')
    number, conflicts = reverse(host.graph, whole(words[0]), whole(words[1]), name, host.time)
    return joined_or_conflicts(number, conflicts)


def log(console, name, words):
    """Tell the commits from which one comes."""
    console.host.need(name, 'read')
    return log_lines(console.host.graph, whole(words[0]))


def show(console, name, words):
    """Tell the files of a commit."""
    console.host.need(name, 'read')
    files = console.host.graph.files(whole(words[0]))
    return tuple([f'{path}: {BETWEEN_LINES.join(files[path])}' for path in sorted(files)])


def diff(console, name, words):
    """Tell the patch that leads from one commit's text to another one's; a file that is not there has no lines."""
    console.host.need(name, 'read')
    graph, path = console.host.graph, words[2]
    before, after = graph.files(whole(words[0])), graph.files(whole(words[1]))
    parts_of_path(path)
    patch = patch_between(before.get(path, ()), after.get(path, ()))
    added, dropped = counts(patch)
    return (f'+{added} -{dropped}', *patch_text(patch))


def propose(console, name, words):
    """Propose a commit for a branch, and tell the change's number."""
    return (str(console.host.propose(name, words[0], whole(words[1]))),)


def vote(console, name, words):
    """Vote on a change."""
    if words[1] not in VOTES:
        raise ReviewError(f'no vote: {words[1]}')
    console.host.vote(name, whole(words[0]), VOTES[words[1]])
    return ('voted',)


def lacking(console, name, words):
    """Tell what a change lacks."""
    console.host.need(name, 'read')
    return console.host.lacking(whole(words[0]))


def land(console, name, words):
    """Queue a change."""
    console.host.land(name, whole(words[0]))
    return ('queued',)


def move(console, name, words):
    """Let a change end elsewhere."""
    console.host.move(name, whole(words[0]), whole(words[1]))
    return ('moved',)


def drop(console, name, words):
    """Drop a change."""
    console.host.drop(name, whole(words[0]))
    return ('dropped',)


def allow(console, name, words):
    """Give somebody a right, or take it away."""
    console.host.allow(name, words[0], None if words[1] == NO_RIGHT else words[1])
    return ('allowed',)


def owners_row(text):
    """Return (beginning, names) of "beginning=name,name"; raise ReviewError for another text."""
    beginning, sign, rest = text.partition('=')
    if sign == '':
        raise ReviewError(f'no owners: {text}')
    if beginning != '':
        parts_of_path(beginning)
    names = tuple(rest.split(','))
    for name in names:
        check_plain(name)
    return beginning, names


def guard(console, name, words):
    """Guard a branch by a number of votes and owners of beginnings of paths."""
    owners = {beginning: names for beginning, names in [owners_row(word) for word in words[2:]]}
    console.host.guard(name, words[0], Rules(whole(words[1]), owners))
    return ('guarded',)


def go(console, name, words):
    """Let ticks pass, and tell the time."""
    console.host.need(name, 'read')
    for _ in range(whole(words[0])):
        console.host.tick()
    return (str(console.host.time),)


def queue(console, name, words):
    """Tell what happened in the queue of a branch."""
    console.host.need(name, 'read')
    found = console.host.branch_of(words[0]).queue
    if found is None:
        raise ReviewError(f'the branch is not guarded: {words[0]}')
    return tuple([f'{time} {word} {number}' for time, word, number in found.events])


ACTIONS = {'begin': begin, 'new': begin_anew, 'write': write, 'erase': erase, 'commit': commit, 'branch': branch,
           'push': push, 'merge': merge, 'reverse': take_back, 'log': log, 'show': show, 'diff': diff,
           'propose': propose, 'vote': vote, 'lacking': lacking, 'land': land, 'move': move, 'drop': drop,
           'allow': allow, 'guard': guard, 'go': go, 'queue': queue}
# How many words stand behind the first one: at least, and at most if there is such a number.
NUMBERS_OF_WORDS = {'begin': (1, 1), 'new': (0, 0), 'write': (1, None), 'erase': (1, 1), 'commit': (1, None),
                    'branch': (2, 2), 'push': (2, 2), 'merge': (2, 2), 'reverse': (2, 2), 'log': (1, 1),
                    'show': (1, 1), 'diff': (3, 3), 'propose': (2, 2), 'vote': (2, 2), 'lacking': (1, 1),
                    'land': (1, 1), 'move': (2, 2), 'drop': (1, 1), 'allow': (2, 2), 'guard': (2, None), 'go': (1, 1),
                    'queue': (1, 1)}
