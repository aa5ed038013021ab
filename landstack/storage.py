"""Storage: what is still needed of a graph, and a smaller one that holds just that."""

from landstack.contents import Contents
from landstack.errors import GraphError
from landstack.graph import Commit, Graph


def needed_commits(graph, heads):
    """Return the commits that some heads are or come from, ascending; raise GraphError for an unknown one."""
    found = {}
    for head in heads:
        for number in graph.ancestors(head):
            found[number] = True
    return tuple(sorted(found))


def needed_contents(graph, heads):
    """Return the contents that these commits' trees reach, ascending."""
    found = {}
    for number in needed_commits(graph, heads):
        tree = graph.commit(number).tree
        if tree not in found:
            for content in graph.contents.reachable(tree):
                found[content] = True
    return tuple(sorted(found))


class Compact:
    """A graph of what is needed, and tables of old to new numbers of commits and contents."""

    def __init__(self, graph, commits, contents):
        self.graph = graph
        self.commits = commits
        self.contents = contents


def renumbered(content, numbers):
    """Return a content with the new numbers of what is in it."""
    if content[0] == 'text':
        return content
    return 'tree', tuple((name, numbers[inner]) for name, inner in content[1])


def compacted(graph, heads):
    """Return a compact of what some heads need, in the same order."""
    numbers = needed_commits(graph, heads)
    for number in numbers:
        check_commit(graph, number)
    needed = needed_contents(graph, heads)
    contents = {old: new for new, old in enumerate(needed)}
    small = Graph(Contents())
    for old in needed:
        small.contents.put(renumbered(graph.contents.content_of(old), contents))
    commits = {}
    for old in numbers:
        one = graph.commit(old)
        parents = [commits[parent] for parent in one.parents]
        commits[old] = small.add(Commit(contents[one.tree], parents, one.author, one.time, one.message))
    return Compact(small, commits, contents)


def lines_in(contents, numbers):
    """Return how many lines the texts among some contents have."""
    rows = [contents.content_of(number) for number in numbers]
    return sum([len(row[1]) for row in rows if row[0] == 'text'])


def sizes(graph, heads):
    """Return (commits, contents, lines of texts) that some heads need, and the same of all that is there."""
    needed = needed_contents(graph, heads)
    contents = graph.contents
    many = len(contents.rows)
    part = (len(needed_commits(graph, heads)), len(needed), lines_in(contents, needed))
    return part, (len(graph.commits), many, lines_in(contents, list(range(many))))


def check_graph(graph):
    """Raise GraphError for a commit whose parents do not stand ahead of it, or whose tree is none."""
    for number in range(len(graph.commits)):
        check_commit(graph, number)


def check_commit(graph, number):
    """Raise GraphError for a commit with a parent that does not stand ahead of it, or without a tree."""
    one = graph.commit(number)
    contents = graph.contents
    if any(not 0 <= parent < number for parent in one.parents):
        raise GraphError(f'a parent of commit {number} does not stand ahead of it')
    if not 0 <= one.tree < len(contents.rows) or contents.content_of(one.tree)[0] != 'tree':
        raise GraphError(f'commit {number} has no tree')
