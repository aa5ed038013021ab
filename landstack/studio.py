"""The studio: a host whose changes carry talks and tests with them, and whose branches have releases."""

from landstack.anchors import Discussion, make_anchor
from landstack.errors import ReviewError
from landstack.impact import Suite, Trust
from landstack.releases import next_version, notes
from landstack.versions import version_text

FIRST_VERSION = (0, 1, 0)


class Studio:
    """A host, tests, what came of them, talks by change, and of each branch the version and what landed since."""

    def __init__(self, host):
        self.host = host
        self.suite = Suite()
        self.trust = Trust()
        self.talks = {}
        self.versions = {}
        self.landed = {}

    def propose(self, name, branch, number):
        """Propose a commit as the host does, and begin its talks; return the change's number."""
        change = self.host.propose(name, branch, number)
        self.talks[change] = Discussion()
        return change

    def files_of(self, number):
        """Return the files of a change's end; raise ReviewError for an unknown one."""
        return self.host.graph.files(self.host.change_of(number).head)

    def talk_of(self, number):
        """Return a change's talks; raise ReviewError for one that was not proposed here."""
        if number not in self.talks:
            raise ReviewError(f'change {number} was not proposed here')
        return self.talks[number]

    def open_talk(self, name, number):
        """Return the talks of an open change for somebody who may read."""
        self.host.need(name, 'read')
        talk = self.talk_of(number)
        self.host.change_of(number).check_open()
        return talk

    def say(self, name, number, spot, text):
        """Let somebody who may read begin to talk at (path, first, last) lines of an open change; return its number."""
        talk = self.open_talk(name, number)
        path, first, last = spot
        return talk.begin(make_anchor(self.files_of(number), path, first, last), name, text)

    def answer(self, name, number, place, text):
        """Let somebody who may read answer in a talk of an open change."""
        self.open_talk(name, number).answer(place, name, text)

    def settle(self, name, number, place):
        """Let the change's author, or who began a talk, settle it; raise ReviewError for others."""
        talk = self.open_talk(name, number)
        author = self.host.change_of(number).author
        if place not in talk.said or name not in (author, talk.said[place][0][0]):
            raise ReviewError(f'{name} has no talk with the number {place} to settle')
        talk.settle(place)

    def move(self, name, number, head):
        """Let a change end elsewhere as the host does, its talks moved with its files; return those that are gone."""
        # What the host refuses goes ahead of what is refused here.
        self.host.own_change(name, number)
        talk = self.talk_of(number)
        before = self.files_of(number)
        self.host.move(name, number, head)
        return talk.move(before, self.files_of(number))

    def tests_of(self, number):
        """Return the tests that a change can touch, and all that they need."""
        paths = self.host.paths_of(self.host.change_of(number))
        return self.suite.with_needs(self.suite.touched(paths))

    def note(self, name, number, test, good):
        """Let somebody who may write note what came of a test on an open change's tree; ReviewError for other tests."""
        self.host.need(name, 'write')
        change = self.host.change_of(number)
        change.check_open()
        if test not in self.tests_of(number):
            raise ReviewError(f'change {number} does not touch the test {test}')
        self.trust.note(test, self.host.graph.commit(change.head).tree, good)

    def lacking(self, number):
        """Return what a change lacks: what the host tells, then "talks" if one is open, "tests" unless all are good."""
        words = list(self.host.lacking(number))
        if False in list(self.talk_of(number).settled.values()):
            words.append('talks')
        tree = self.host.graph.commit(self.host.change_of(number).head).tree
        if self.trust.verdict(tree, self.tests_of(number)) != 'good':
            words.append('tests')
        return tuple(words)

    def land(self, name, number):
        """Queue a change as the host does; raise ReviewError if it lacks something."""
        self.host.need(name, 'write')
        if self.lacking(number) != ():
            raise ReviewError(f'change {number} lacks something')
        self.host.land(name, number)

    def tick(self):
        """Let the host tick; changes that landed are noted for their branch's next release, by numbers."""
        waiting = [change for change in self.host.changes if change.state == 'open']
        self.host.tick()
        for change in waiting:
            if change.state == 'landed':
                self.landed.setdefault(change.branch, []).append(change.number)

    def rows_of(self, branch):
        """Return the (number, message) rows of what landed on a branch since its last release."""
        numbers = self.landed.get(branch, [])
        return [(number, self.host.graph.commit(self.host.changes[number].head).message) for number in numbers]

    def release(self, name, branch):
        """Let somebody who may write release a branch, and return (version, the notes' lines).

        The version comes next to the one before, by the messages of what landed since. Raise ReviewError if that is the
        same version.
        """
        self.host.need(name, 'write')
        self.host.branch_of(branch)
        rows = self.rows_of(branch)
        old = self.versions.get(branch, FIRST_VERSION)
        version = next_version(old, [message for _, message in rows])
        if version == old:
            raise ReviewError(f'nothing to release behind version {version_text(old)}')
        self.versions[branch] = version
        self.landed[branch] = []
        return version, notes(version, rows)
