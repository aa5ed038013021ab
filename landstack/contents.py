"""Contents: texts and trees kept by number; equal ones have the same number.

A text is ("text", lines), a tree ("tree", ((name, number), ..)) in ascending order of names.
"""

from landstack.errors import ContentError

NAME_SIGNS = 'abcdefghijklmnopqrstuvwxyzABCDEFGHIJKLMNOPQRSTUVWXYZ0123456789._-'
MOST_NAME = 30
MOST_DEEP = 8
MOST_LINES = 500


def check_name(name):
    """Raise ContentError for a name that is empty, "." or "..", too long, or has other signs than a name may have."""
    if not 0 < len(name) <= MOST_NAME or name in ('.', '..') or any(sign not in NAME_SIGNS for sign in name):
        raise ContentError(f'no name: {name}')


def parts_of_path(path):
    """Return the names of a path, which stand between "/"; raise ContentError for others, and too many."""
    names = path.split('/')
    if len(names) > MOST_DEEP:
        raise ContentError(f'a path is too deep: {path}')
    for name in names:
        check_name(name)
    return tuple(names)


def folders_of(path):
    """Return the paths of the folders in which a path stands, the outermost first."""
    names = path.split('/')
    return tuple('/'.join(names[:many]) for many in range(1, len(names)))


def check_lines(lines):
    """Raise ContentError for lines that are no text."""
    if len(lines) > MOST_LINES:
        raise ContentError(f'a text has {len(lines)} lines')
    if any('\n' in line for line in lines):
        raise ContentError('a line has a line end within it')


def check_files(files):
    """Raise ContentError for a table with a path or a text that is none, or with a file within another one."""
    for path, lines in files.items():
        parts_of_path(path)
        check_lines(lines)
        if any(folder in files for folder in folders_of(path)):
            raise ContentError(f'a file stands within another one: {path}')


class Contents:
    """Contents by number, and numbers by content."""

    def __init__(self):
        self.rows = []
        self.numbers = {}

    def put(self, content):
        """Return the number of a content, which is kept if it was not there."""
        if content not in self.numbers:
            self.numbers[content] = len(self.rows)
            self.rows.append(content)
        return self.numbers[content]

    def put_text(self, lines):
        """Return the number of a text; raise ContentError for too many lines, or line ends within them."""
        check_lines(lines)
        return self.put(('text', tuple(lines)))

    def content_of(self, number):
        """Return a content; raise ContentError for an unknown number."""
        if not 0 <= number < len(self.rows):
            raise ContentError(f'no content has the number {number}')
        return self.rows[number]

    def text_lines(self, number):
        """Return the lines of a text; raise ContentError for another content."""
        content = self.content_of(number)
        if content[0] != 'text':
            raise ContentError(f'content {number} is no text')
        return content[1]

    def tree_rows(self, number):
        """Return the (name, number) rows of a tree; raise ContentError for another content."""
        content = self.content_of(number)
        if content[0] != 'tree':
            raise ContentError(f'content {number} is no tree')
        return content[1]

    def put_files(self, files):
        """Return the number of the tree of a table of paths and lines; raise ContentError if one is within another."""
        # A fault must leave nothing behind, so that all is looked at before anything is kept.
        check_files(files)
        return self.put_folder(files)

    def put_folder(self, files):
        """Keep what stands in a folder, by names, then its tree, and return the tree's number."""
        inner = {}
        for path, lines in files.items():
            name, _, rest = path.partition('/')
            inner.setdefault(name, {})[rest] = lines
        rows = []
        for name in sorted(inner):
            # No rest of a path within a folder is empty: that is the file of this name itself.
            if '' in inner[name]:
                rows.append((name, self.put_text(inner[name][''])))
            else:
                rows.append((name, self.put_folder(inner[name])))
        return self.put(('tree', tuple(rows)))

    def files(self, number):
        """Return the table of paths and lines of a tree; raise ContentError for another content."""
        return {path: self.text_lines(text) for path, text in self.paths(number)}

    def paths(self, number):
        """Return the (path, number) rows of a tree's texts, in ascending order of paths."""
        found = []
        waiting = [('', self.tree_rows(number))]
        while waiting:
            start, rows = waiting.pop()
            for name, inner in rows:
                if self.content_of(inner)[0] == 'tree':
                    waiting.append((start + name + '/', self.tree_rows(inner)))
                else:
                    found.append((start + name, inner))
        # The order of names is not that of paths: "a-b" stands behind "a", but ahead of "a/b".
        return tuple(sorted(found))

    def changed_paths(self, one, other):
        """Return the paths whose texts differ between two trees, or that only one has, ascending."""
        before = dict(self.paths(one))
        after = dict(self.paths(other))
        paths = sorted(set(before) | set(after))
        return tuple(path for path in paths if before.get(path) != after.get(path))

    def reachable(self, number):
        """Return the numbers of a content and all within it, ascending."""
        found = {}
        waiting = [number]
        while waiting:
            here = waiting.pop()
            if here not in found:
                found[here] = True
                if self.content_of(here)[0] == 'tree':
                    waiting.extend([inner for _, inner in self.tree_rows(here)])
        return tuple(sorted(found))
