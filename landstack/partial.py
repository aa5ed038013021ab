"""Partial: a part of the files alone, by folders, that is looked at and changed without the rest."""

from landstack.contents import folders_of, parts_of_path
from landstack.errors import HostError

TOP = ''


class Window:
    """Folders that are seen whole; the files at the top, and those beside the folders on the way, are seen, too."""

    def __init__(self, folders):
        self.folders = tuple(folders)
        self.on_the_way = {TOP: True}
        for folder in self.folders:
            parts_of_path(folder)
            for outer in folders_of(folder):
                self.on_the_way[outer] = True

    def sees(self, path):
        """Return True if a path is seen."""
        parts_of_path(path)
        around = (TOP, *folders_of(path))
        return around[-1] in self.on_the_way or any(folder in self.folders for folder in around)

    def look(self, files):
        """Return the table of the paths that are seen."""
        return {path: lines for path, lines in files.items() if self.sees(path)}

    def with_changes(self, files, seen):
        """Return all files with those that are seen replaced by others; raise HostError for one that is not seen."""
        if any(not self.sees(path) for path in seen):
            raise HostError('a file that is not seen cannot be put')
        hidden = {path: lines for path, lines in files.items() if not self.sees(path)}
        return {**hidden, **seen}

    def wider(self, folders):
        """Return the window of these folders and others."""
        return Window(self.folders + tuple(folders))

    def deeds_between(self, before, after):
        """Return (word, path) of what a window has to do from one table of files to another, ascending by paths."""
        old = self.look(before)
        new = self.look(after)
        deeds = []
        for path in sorted(set(old) | set(new)):
            if path not in new:
                deeds.append(('take', path))
            elif path not in old or old[path] != new[path]:
                deeds.append(('put', path))
        return tuple(deeds)
