"""Builds: things made of files and of each other, of which only those are made anew that have to be."""

from landstack.contents import check_name
from landstack.errors import BuildError

MOST_TARGETS = 60
FACTOR = 1000003
MODULUS = 2 ** 61 - 1
FIRST_DIGEST = 7
# One more than the number of the last character that there is: no text has it.
END_OF_TEXT = 1114112


def taken_in(value, number):
    """Return the value that comes of another one when it takes in a number."""
    return (value * FACTOR + number) % MODULUS


def digest_of(texts):
    """Return a number that hangs on a row of texts."""
    value = FIRST_DIGEST
    for text in texts:
        for sign in text:
            value = taken_in(value, ord(sign))
        value = taken_in(value, END_OF_TEXT)
    return value


class Target:
    """A name, the paths of files and the names of targets that it is made of, in order, and the recipe's text."""

    def __init__(self, name, files, targets, recipe):
        self.name = name
        self.sources = tuple(files)
        self.targets = tuple(targets)
        self.recipe = recipe


class Recipes:
    """Targets by name."""

    def __init__(self, targets):
        self.targets = {}
        for one in targets:
            check_name(one.name)
            if one.name in self.targets or len(self.targets) >= MOST_TARGETS:
                raise BuildError(f'targets are told twice, or too many: {one.name}')
            self.targets[one.name] = one
        for one in self.targets.values():
            if any(name not in self.targets for name in one.targets):
                raise BuildError(f'an unknown target: {one.name} needs it')
        # Whatever stands in a ring has no order.
        self.order(list(self.targets))

    def order(self, names):
        """Return all targets that some names need, and these, each behind those it needs; BuildError for a ring."""
        found = []
        for name in names:
            self.put_behind(name, found, ())
        return found

    def put_behind(self, name, found, above):
        """Put a target behind all that it needs, unless it is there; above are those that lead to it."""
        if name not in self.targets:
            raise BuildError(f'an unknown target: {name}')
        if name in above:
            raise BuildError(f'targets need each other: {name}')
        if name not in found:
            for need in self.targets[name].targets:
                self.put_behind(need, found, (*above, name))
            found.append(name)

    def needing(self, names):
        """Return the targets that some files or targets reach, ascending.

        A target that is named is told only if a file, or another target, that is named reaches it.
        """
        reached = {}
        # Targets stand behind those that they need, so that one look at each is enough.
        for name in self.order(list(self.targets)):
            one = self.targets[name]
            if any(path in names for path in one.sources) or any(
                    need in names or need in reached for need in one.targets):
                reached[name] = True
        return sorted(reached)


def parts_of(target, files, texts):
    """Return the texts of which a target is made: those of its files, then those of its targets."""
    lines = ['\n'.join(files[path]) for path in target.sources]
    return (*lines, *[texts[name] for name in target.targets])


class Builder:
    """What was made, by its recipe and all texts that went into it, and how often each target was made."""

    def __init__(self, plan):
        self.plan = plan
        self.kept = {}
        self.made = {}

    def build(self, files, names, make):
        """Return a table of names and texts; make is a function from a recipe and a row of texts to a text.

        A thing is made only if nothing was made of the same recipe and the same texts before. BuildError for a file
        that is not there.
        """
        order = self.plan.order(names)
        if any(path not in files for name in order for path in self.plan.targets[name].sources):
            raise BuildError('a file is not there')
        texts = {}
        fresh = {}
        made = {}
        for name in order:
            one = self.plan.targets[name]
            # The texts themselves, not a digest of them, tell what is known: two rows may have one digest.
            parts = parts_of(one, files, texts)
            known = (one.recipe, parts)
            if known not in self.kept and known not in fresh:
                fresh[known] = make(one.recipe, parts)
                made[name] = self.made.get(name, 0) + 1
            texts[name] = fresh[known] if known in fresh else self.kept[known]
        # Only here is anything noted: if one thing could not be made, nothing has changed.
        for known, text in fresh.items():
            self.kept[known] = text
        self.made.update(made)
        return {name: texts[name] for name in names}
