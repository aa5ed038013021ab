"""Finding: questions about texts, answered by an index of three characters in a row, and looked at once more.

Questions are ("word", text), ("path", text), ("not", a), ("and", a, b) and ("or", a, b).
"""

from landstack.contents import NAME_SIGNS
from landstack.errors import QueryError

MOST_DEEP = 20
MOST_MARKS = 100
THREE = 3
PATH = 'path:'


def is_plain(text):
    """Return True for signs of which a plain word may be made."""
    return text != '' and all(sign in NAME_SIGNS or sign == '/' for sign in text)


def quoted_word(text):
    """Return a text as it is if it is a plain word, else in quotes, a quote and a backslash behind a backslash."""
    if is_plain(text) and text[0] != '-' and text != 'or':
        return text
    inner = text.replace('\\', '\\\\').replace('"', '\\"')
    return f'"{inner}"'


def text_within(question, words):
    """Return a question's text, in brackets if the question is of one of some words."""
    text = question_text(question)
    return f'({text})' if question[0] in words else text


def question_text(question):
    """Return a question's text; words that are no plain ones stand in quotes."""
    word = question[0]
    if word == 'word':
        return quoted_word(question[1])
    if word == 'path':
        return PATH + quoted_word(question[1])
    if word == 'not':
        return '-' + text_within(question[1], ('and', 'or'))
    # Questions are read from the left: brackets stand where the right one would be read in another way.
    if word == 'and':
        return text_within(question[1], ('or',)) + ' ' + text_within(question[2], ('and', 'or'))
    return question_text(question[1]) + ' or ' + text_within(question[2], ('or',))


def quoted_mark(text, start):
    """Return (mark, place behind it) of the quotes that begin at a place; raise QueryError for others."""
    found = ''
    place = start + 1
    while place < len(text) and text[place] != '"':
        if text[place] == '\\':
            place += 1
            if text[place:place + 1] not in ('"', '\\'):
                raise QueryError('a backslash stands ahead of another sign')
        found += text[place]
        place += 1
    if place >= len(text):
        raise QueryError('quotes do not end')
    return ('word', found), place + 1


def plain_mark(text, start):
    """Return (mark, place behind it) of the plain signs that begin at a place; raise QueryError for others."""
    place = start
    while is_plain(text[place:place + 1]):
        place += 1
    word = text[start:place]
    if word == '':
        raise QueryError(f'no sign of a question: {text[start]}')
    if word == 'path' and text[place:place + 1] == ':':
        return ('path', word), place + 1
    if word == 'or':
        return ('or', word), place
    return ('word', word), place


def marks_of(text):
    """Return the (kind, word) marks of a text; raise QueryError for signs that are none, or too many marks."""
    marks = []
    place = 0
    while place < len(text):
        sign = text[place]
        if sign == ' ':
            place += 1
            continue
        if sign in ('(', ')', '-'):
            mark = (sign, sign)
            place += 1
        elif sign == '"':
            mark, place = quoted_mark(text, place)
        else:
            mark, place = plain_mark(text, place)
        marks.append(mark)
    if len(marks) > MOST_MARKS:
        raise QueryError(f'too many marks: {len(marks)}')
    return marks


class Reader:
    """The marks of a question's text, and a place in them."""

    def __init__(self, marks):
        self.marks = marks
        self.place = 0

    def here(self):
        """Return the kind of the mark at hand, "end" behind the last one."""
        return self.marks[self.place][0] if self.place < len(self.marks) else 'end'

    def take(self, kind):
        """Return the word of the mark at hand, and go on; raise QueryError for another kind."""
        if self.here() != kind:
            raise QueryError(f'a question needs {kind} instead of {self.here()}')
        self.place += 1
        return self.marks[self.place - 1][1]

    def either(self, deep):
        """Return the question of what is parted by "or", within so many brackets and "-"."""
        question = self.every(deep)
        while self.here() == 'or':
            self.take('or')
            question = ('or', question, self.every(deep))
        return question

    def every(self, deep):
        """Return the question of what stands side by side."""
        question = self.single(deep)
        while self.here() not in ('or', ')', 'end'):
            question = ('and', question, self.single(deep))
        return question

    def single(self, deep):
        """Return the question of a word, of a path, behind a "-" or in brackets."""
        kind = self.here()
        if kind in ('-', '(') and deep == MOST_DEEP:
            raise QueryError('too many brackets and "-" stand within each other')
        if kind == '-':
            self.take('-')
            return 'not', self.single(deep + 1)
        if kind == '(':
            self.take('(')
            question = self.either(deep + 1)
            self.take(')')
            return question
        if kind == 'path':
            self.take('path')
            return 'path', self.take('word')
        return 'word', self.take('word')


def parse_question(text):
    """Return the question of a text; raise QueryError for others."""
    reader = Reader(marks_of(text))
    question = reader.either(0)
    if reader.here() != 'end':
        raise QueryError(f'no question: {text}')
    return question


def threes(text):
    """Return all three characters in a row of a text, ascending, each once."""
    return tuple(sorted({text[place:place + THREE] for place in range(len(text) - THREE + 1)}))


def words_of(question):
    """Return the words of a question that are not within a "not", in order."""
    if question[0] == 'word':
        return [question[1]]
    if question[0] in ('and', 'or'):
        return words_of(question[1]) + words_of(question[2])
    return []


class Index:
    """Files by path, and the paths in which three characters stand in a row."""

    def __init__(self):
        self.texts = {}
        self.places = {}

    def put(self, path, lines):
        """Keep a file, in place of an older one."""
        self.drop(path)
        self.texts[path] = tuple(lines)
        for line in lines:
            for three in threes(line):
                self.places.setdefault(three, {})[path] = True

    def drop(self, path):
        """Forget a file, if it is there."""
        for line in self.texts.pop(path, ()):
            for three in threes(line):
                self.forget(three, path)

    def forget(self, three, path):
        """Forget that three characters stand in a row in a file; what stands nowhere any more is not kept."""
        paths = self.places.get(three, {})
        paths.pop(path, None)
        if paths == {}:
            self.places.pop(three, None)

    def may_have(self, text):
        """Return the paths whose lines have all three characters in a row that a text has, ascending."""
        rows = [self.places.get(three, {}) for three in threes(text)]
        return [path for path in sorted(self.texts) if all([path in row for row in rows])]

    def holds(self, question, path):
        """Return True if a question holds for a file: a word stands in a line, a path in the file's path."""
        word = question[0]
        if word == 'word':
            return any(question[1] in line for line in self.texts.get(path, ()))
        if word == 'path':
            return question[1] in path
        if word == 'not':
            return not self.holds(question[1], path)
        if word == 'and':
            return self.holds(question[1], path) and self.holds(question[2], path)
        return self.holds(question[1], path) or self.holds(question[2], path)

    def candidates(self, question):
        """Return paths, ascending, among which are all for which a question holds."""
        word = question[0]
        if word == 'word':
            return self.may_have(question[1])
        if word == 'path':
            return [path for path in sorted(self.texts) if question[1] in path]
        # What the three characters in a row tell of a word is not enough to tell where it does not stand.
        if word == 'not':
            return sorted(self.texts)
        one = self.candidates(question[1])
        other = self.candidates(question[2])
        if word == 'and':
            return sorted(set(one) & set(other))
        return sorted(set(one) | set(other))

    def answers(self, question):
        """Return the (path, places of lines in which some word of the question stands) for which it holds."""
        words = words_of(question)
        paths = [path for path in self.candidates(question) if self.holds(question, path)]
        return tuple([(path, self.places_in(path, words)) for path in paths])

    def places_in(self, path, words):
        """Return the places of a file's lines in which one of some words stands."""
        lines = self.texts[path]
        return tuple(place for place, line in enumerate(lines) if any([word in line for word in words]))
