"""History: merges, moves and reversals of commits."""

from landstack.errors import GraphError
from landstack.graph import MOST_MESSAGE, Commit
from landstack.merging import merge_files

BEFORE_REVERSED = 'not: '


def base_files(graph, one, other):
    """Return the files from which two commits come: those of their latest common base, none without one."""
    bases = graph.bases(one, other)
    return graph.files(bases[-1]) if bases else {}


def merged_files(graph, one, other):
    """Return the merge of the files of two commits."""
    return merge_files(base_files(graph, one, other), graph.files(one), graph.files(other))


def kept_merge(graph, merged, parents, author, time, message):
    """Return (commit of merged files, ()), or (None, paths that conflict)."""
    if not merged.is_clean():
        return None, merged.conflicts
    tree = graph.contents.put_files(merged.value)
    return graph.add(Commit(tree, parents, author, time, message)), ()


def merge_commits(graph, one, other, author, time, message):
    """Return (commit that joins two commits, ()), or (None, paths that conflict).

    If one comes from the other one, it is that one.
    """
    if graph.comes_from(one, other):
        return one, ()
    if graph.comes_from(other, one):
        return other, ()
    return kept_merge(graph, merged_files(graph, one, other), (one, other), author, time, message)


def check_no_merge(graph, number):
    """Raise GraphError for a merge, of which nobody knows against which parent it is to be taken."""
    if len(graph.commit(number).parents) > 1:
        raise GraphError(f'commit {number} is a merge')


def files_before(graph, number):
    """Return the files of a commit's parent, none without one; raise GraphError for a merge."""
    check_no_merge(graph, number)
    parents = graph.commit(number).parents
    return graph.files(parents[0]) if parents else {}


def pick(graph, number, onto, author, time):
    """Return (commit that does on another one what a commit did, ()), or (None, paths that conflict)."""
    merged = merge_files(files_before(graph, number), graph.files(onto), graph.files(number))
    return kept_merge(graph, merged, (onto,), author, time, graph.commit(number).message)


def reverse(graph, number, onto, author, time):
    """Return (commit that takes back on another one what a commit did, ()), or (None, paths that conflict)."""
    merged = merge_files(graph.files(number), graph.files(onto), files_before(graph, number))
    message = BEFORE_REVERSED + graph.commit(number).message
    return kept_merge(graph, merged, (onto,), author, time, message[:MOST_MESSAGE])


def move_line(graph, number, onto, time):
    """Return (commit at the end of a line that was moved, ()), or (None, paths that conflict).

    What a commit comes from and the other one does not is picked in order, each by its author.
    """
    moved = graph.new_in(number, onto)
    for here in moved:
        check_no_merge(graph, here)
    end = onto
    for here in moved:
        end, conflicts = pick(graph, here, end, graph.commit(here).author, time)
        if end is None:
            return None, conflicts
    return end, ()


def log_line(number, commit):
    """Return the line of a log that tells a commit."""
    mark = ' (merge)' if len(commit.parents) > 1 else ''
    return f'{number} {commit.author} {commit.time}{mark} {commit.message}'


def log_lines(graph, number):
    """Return a line for each commit that a commit comes from, the greatest number first."""
    numbers = sorted(graph.ancestors(number), reverse=True)
    return tuple(log_line(here, graph.commit(here)) for here in numbers)
