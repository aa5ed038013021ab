"""Policies: who may do what to which path, by groups and rules, and why."""

from landstack.contents import NAME_SIGNS
from landstack.errors import RightError

DEEDS_OF_POLICY = ('read', 'write', 'review', 'land', 'admin')
ALLOW = 'allow'
DENY = 'deny'
EVERYBODY = '*'
BEFORE_A_GROUP = '@'
EVERY_DEED = 'admin'
WITHIN_A_NAME = '*'
OVER_NAMES = '**'
MOST_PATTERN = 60
MOST_GROUPS_DEEP = 10


class Rule:
    """A word, "allow" or "deny", a person or "@group", deeds, and a pattern of paths."""

    def __init__(self, word, who, deeds, pattern):
        self.word = word
        self.who = who
        self.deeds = tuple(deeds)
        self.pattern = pattern

    def shown(self):
        """Return (word, who, deeds, pattern)."""
        return self.word, self.who, self.deeds, self.pattern


def check_deeds(deeds):
    """Raise RightError for deeds that are none, or told twice."""
    if any(deed not in DEEDS_OF_POLICY for deed in deeds) or len({deed: True for deed in deeds}) != len(deeds):
        raise RightError(f'no deeds: {deeds}')


def check_pattern(pattern):
    """Raise RightError for what is no pattern of paths."""
    if not 0 < len(pattern) <= MOST_PATTERN or any(sign not in NAME_SIGNS + '/*' for sign in pattern):
        raise RightError(f'no pattern: {pattern}')


def rule_of(text):
    """Return the rule of "allow who deed,deed pattern" (or deny); raise RightError for others."""
    words = text.split(' ')
    if len(words) != 4 or words[0] not in (ALLOW, DENY) or words[1] == '':
        raise RightError(f'no rule: {text}')
    deeds = words[2].split(',')
    check_deeds(deeds)
    check_pattern(words[3])
    return Rule(words[0], words[1], deeds, words[3])


def marks_of(pattern):
    """Return the marks of a pattern, in order: signs, "*" and "**"."""
    marks = []
    place = 0
    while place < len(pattern):
        mark = OVER_NAMES if pattern[place:place + 2] == OVER_NAMES else pattern[place]
        marks.append(mark)
        place += len(mark)
    return marks


def fits_path(pattern, path):
    """Return True if a pattern fits a path: "*" is any text without "/", "**" any text."""
    # At each place: do the marks so far fit the path up to there?
    fits = [True] + [False] * len(path)
    for mark in marks_of(pattern):
        if mark not in (WITHIN_A_NAME, OVER_NAMES):
            fits = [False] + [fits[place] and sign == mark for place, sign in enumerate(path)]
            continue
        for place, sign in enumerate(path):
            if fits[place] and (mark == OVER_NAMES or sign != '/'):
                fits[place + 1] = True
    return fits[-1]


def levels_of(groups):
    """Return how many of some groups stand within each other, one too many for a ring."""
    left = groups
    many = 0
    while left and many <= MOST_GROUPS_DEEP:
        # What has none of those that are left in it is done: so the levels go one by one, and a ring stays.
        told = [BEFORE_A_GROUP + name for name in left]
        left = {name: members for name, members in left.items() if any(member in told for member in members)}
        many += 1
    return many


class Policy:
    """Groups by name, with persons and "@groups" in them, and rules in order."""

    def __init__(self):
        self.groups = {}
        self.rules = []

    def put_group(self, name, members):
        """Tell who is in a group; raise RightError for a ring of groups, too many within each other, or a bad name."""
        if name.startswith(BEFORE_A_GROUP) or EVERYBODY in (name, *members):
            raise RightError(f'no group: {name}')
        groups = dict(self.groups)
        groups[name] = tuple(members)
        if levels_of(groups) > MOST_GROUPS_DEEP:
            raise RightError(f'a ring of groups, or too many within each other: {name}')
        self.groups = groups

    def put_rule(self, text):
        """Add a rule by its text, behind all others; raise RightError."""
        self.rules.append(rule_of(text))

    def groups_of(self, person):
        """Return the groups that somebody is in, by others too, ascending."""
        found = {}
        waiting = [person]
        while waiting:
            here = waiting.pop()
            for name, members in self.groups.items():
                if here in members and name not in found:
                    found[name] = True
                    waiting.append(BEFORE_A_GROUP + name)
        return tuple(sorted(found))

    def speaking(self, person, deed, path):
        """Return (places of "deny" rules, places of "allow" rules) that speak of somebody, a deed and a path."""
        names = [EVERYBODY, person, *[BEFORE_A_GROUP + name for name in self.groups_of(person)]]
        places = [place for place, rule in enumerate(self.rules)
                  if rule.who in names and (deed in rule.deeds or EVERY_DEED in rule.deeds)
                  and fits_path(rule.pattern, path)]
        denied = [place for place in places if self.rules[place].word == DENY]
        return denied, [place for place in places if place not in denied]

    def deciding(self, person, deed, path):
        """Return the place of the rule that decides, None for none: the last "deny" that speaks, else the last "allow".

        A rule for "admin" allows, or denies, every deed.
        """
        denied, allowed = self.speaking(person, deed, path)
        places = denied if denied else allowed
        return places[-1] if places else None

    def may(self, person, deed, path):
        """Return True if somebody may do a deed to a path: a rule that allows it decides; RightError for no deed."""
        if deed not in DEEDS_OF_POLICY:
            raise RightError(f'no deed: {deed}')
        place = self.deciding(person, deed, path)
        return place is not None and self.rules[place].word == ALLOW

    def who_may(self, persons, deed, path):
        """Return those of some persons who may do a deed to a path, in their order."""
        return tuple([person for person in persons if self.may(person, deed, path)])

    def useless(self, persons, paths):
        """Return the places of rules without which the same persons may do the same deeds to the same paths."""
        needed = {}
        for person in persons:
            for deed in DEEDS_OF_POLICY:
                for path in paths:
                    denied, allowed = self.speaking(person, deed, path)
                    # A rule makes a difference if it alone denies what others allow, or alone allows what none denies.
                    if len(denied) == 1 and allowed:
                        needed[denied[0]] = True
                    if not denied and len(allowed) == 1:
                        needed[allowed[0]] = True
        return tuple([place for place in range(len(self.rules)) if place not in needed])

    def all_rights(self, persons, paths):
        """Return all (person, deed, path) that are allowed, in order."""
        return tuple([(person, deed, path) for person in persons for deed in DEEDS_OF_POLICY for path in paths
                      if self.may(person, deed, path)])
