"""Releases: what changed since the last one, which number comes next, and which changes another line still lacks."""

from landstack.difference import patch_between, patch_text
from landstack.errors import VersionError
from landstack.versions import version_text

CLASSES = ('break', 'add', 'fix')
BEHIND_A_CLASS = ': '
MOST_NUMBER = 9999


def class_of(message):
    """Return (class, rest) of a message: "break: ..", "add: .." and "fix: ..", ("", message) for others."""
    word, _, rest = message.partition(BEHIND_A_CLASS)
    return (word, rest) if word in CLASSES and rest != '' else ('', message)


def next_version(version, messages):
    """Return the version that comes next, by the classes of messages; the same one without any such message.

    Raise VersionError if a number would go beyond 9999.
    """
    found = [class_of(message)[0] for message in messages]
    places = [place for place, word in enumerate(CLASSES) if word in found]
    if places == []:
        return version
    # While the first number is 0, breaks count as adds, and adds as fixes.
    place = min(places[0] + 1, 2) if version[0] == 0 else places[0]
    if version[place] >= MOST_NUMBER:
        raise VersionError(f'no number is left behind {version_text(version)}')
    return tuple([*version[:place], version[place] + 1, 0, 0][:len(version)])


def notes(version, rows):
    """Return the lines of a release's notes of (number, message) rows: a title, then each class with its changes."""
    lines = [f'version {version_text(version)}']
    for word in CLASSES:
        told = [(number, class_of(message)[1]) for number, message in rows if class_of(message)[0] == word]
        if told:
            lines.append(f'{word}:')
            lines.extend([f'- {rest} ({number})' for number, rest in told])
    return tuple(lines)


def text_of_change(path, before, after):
    """Return the lines that tell what became of a path between two tables of files, whatever stands around it."""
    word = 'changed'
    if path not in before:
        word = 'new'
    elif path not in after:
        word = 'gone'
    patch = patch_between(before.get(path, ()), after.get(path, ()))
    return [f'{word} {path}', *patch_text([row for row in patch if row[0] != 'keep'])]


def change_mark(graph, number):
    """Return a mark of what a commit changes against its first parent: of paths, and of lines put in or out.

    Two commits have one mark if they put the same lines in and out, in the same order, of the same paths, and each
    path is new, gone or changed alike. It is empty for a commit that changes nothing.
    """
    parents = graph.commit(number).parents
    before = graph.files(parents[0]) if parents else {}
    after = graph.files(number)
    # No line has a line end within it: the text tells all lines apart.
    return '\n'.join([line for path in graph.changed(number) for line in text_of_change(path, before, after)])


def lacking_changes(graph, line, other):
    """Return the commits of a line (first parents), the oldest first, whose changes another line lacks, by their marks.

    Commits that change nothing, and those that are common to both, are left out.
    """
    there = {number: True for number in graph.line(other)}
    marks = {change_mark(graph, number): True for number in there}
    marks[''] = True
    own = [number for number in graph.line(line) if number not in there]
    return tuple(number for number in own[::-1] if change_mark(graph, number) not in marks)
