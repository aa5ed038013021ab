"""Graph: commits with their trees and parents, ancestors, and where histories part."""

from landstack.difference import matches
from landstack.errors import GraphError

MOST_PARENTS = 2
MOST_TIME = 10000000
MOST_MESSAGE = 200


class Commit:
    """A tree, parents, who wrote it, a time and a message."""

    def __init__(self, tree, parents, author, time, message):
        self.tree = tree
        self.parents = tuple(parents)
        self.author = author
        self.time = time
        self.message = message

    def shown(self):
        """Return (tree, parents, author, time, message)."""
        return self.tree, self.parents, self.author, self.time, self.message


class Graph:
    """Contents, commits by number, and numbers of commits by what they say."""

    def __init__(self, contents):
        self.contents = contents
        self.commits = []
        self.numbers = {}

    def add(self, commit):
        """Return the number of a commit, which is kept if it was not there; raise GraphError if it cannot be."""
        self.check(commit)
        told = commit.shown()
        if told not in self.numbers:
            self.numbers[told] = len(self.commits)
            self.commits.append(commit)
        return self.numbers[told]

    def check(self, commit):
        """Raise GraphError for a commit that cannot be kept."""
        parents = commit.parents
        if len(parents) > MOST_PARENTS or any(not 0 <= parent < len(self.commits) for parent in parents):
            raise GraphError('a parent is not there, or there are too many')
        if len(parents) == MOST_PARENTS and parents[0] == parents[1]:
            raise GraphError('both parents are one')
        if self.contents.content_of(commit.tree)[0] != 'tree':
            raise GraphError(f'content {commit.tree} is no tree')
        if commit.author == '' or ' ' in commit.author or not 0 <= commit.time < MOST_TIME:
            raise GraphError('no writer, or no time')
        if len(commit.message) > MOST_MESSAGE or '\n' in commit.message:
            raise GraphError('no message')

    def commit(self, number):
        """Return a commit; raise GraphError for an unknown number."""
        if not 0 <= number < len(self.commits):
            raise GraphError(f'no commit has the number {number}')
        return self.commits[number]

    def files(self, number):
        """Return the files of a commit."""
        return self.contents.files(self.commit(number).tree)

    def ancestors(self, number):
        """Return the numbers of a commit and all from which it comes, ascending."""
        found = {}
        waiting = [number]
        while waiting:
            here = waiting.pop()
            if here not in found:
                found[here] = True
                waiting.extend(self.commit(here).parents)
        return tuple(sorted(found))

    def comes_from(self, number, other):
        """Return True if a commit is another one or comes from it."""
        self.commit(other)
        return other in self.ancestors(number)

    def bases(self, one, other):
        """Return the common ancestors of two commits that are not ancestors of another common one, ascending."""
        common = sorted(set(self.ancestors(one)) & set(self.ancestors(other)))
        # What stands between a common ancestor and one of its own is common, too: to look at parents is enough.
        elder = {parent: True for number in common for parent in self.commit(number).parents}
        return tuple(number for number in common if number not in elder)

    def new_in(self, one, other):
        """Return the commits that a commit comes from and another one does not, ascending, so parents first."""
        return tuple(sorted(set(self.ancestors(one)) - set(self.ancestors(other))))

    def line(self, number):
        """Return a commit and its first parents, in order."""
        found = [number]
        parents = self.commit(number).parents
        while parents:
            found.append(parents[0])
            parents = self.commit(parents[0]).parents
        return tuple(found)

    def changed(self, number):
        """Return the paths that a commit changed against its first parent, ascending; all for a first one."""
        commit = self.commit(number)
        if commit.parents == ():
            return tuple(path for path, _ in self.contents.paths(commit.tree))
        return self.contents.changed_paths(self.commit(commit.parents[0]).tree, commit.tree)

    def elder_text(self, number, path):
        """Return the text at a path of a commit's first parent; it has no lines where there is none."""
        parents = self.commit(number).parents
        return self.files(parents[0]).get(path, ()) if parents else ()

    def writers(self, number, path):
        """Return, for each line of a text, the commit that wrote it, following first parents."""
        lines = self.files(number).get(path)
        if lines is None:
            raise GraphError(f'no such path: {path}')
        wrote = [number] * len(lines)
        # Places in the text at hand of lines whose writer is not known yet, with their places at the end.
        left = {place: place for place in range(len(lines))}
        for here in self.line(number):
            if not left:
                break
            for place in left.values():
                wrote[place] = here
            elder = self.elder_text(here, path)
            left = {old: left[new] for old, new in matches(elder, lines) if new in left}
            lines = elder
        return tuple(wrote)
