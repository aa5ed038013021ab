"""Point 15: questions, their texts, and the index that answers them."""

import random
import unittest

from landstack.errors import QueryError
from landstack.finding import Index, parse_question, question_text, quoted_word, threes, words_of


def word(text):
    return 'word', text


A, B, C, D = [word(letter) for letter in 'abcd']
OR, AND, NOT = 'or', 'and', 'not'


class ParseTest(unittest.TestCase):
    def test_questions_and_their_texts(self):
        for text, question in [
                ('a', A), ('path:a', ('path', 'a')), ('-a', (NOT, A)), ('a b', (AND, A, B)), ('a or b', (OR, A, B)),
                ('a b c', (AND, (AND, A, B), C)), ('a (b c)', (AND, A, (AND, B, C))),
                ('a or b or c', (OR, (OR, A, B), C)), ('a or (b or c)', (OR, A, (OR, B, C))),
                ('a b or c d', (OR, (AND, A, B), (AND, C, D))), ('a or b c', (OR, A, (AND, B, C))),
                ('(a or b) c', (AND, (OR, A, B), C)), ('a (b or c) d', (AND, (AND, A, (OR, B, C)), D)),
                ('-a b', (AND, (NOT, A), B)), ('-(a b)', (NOT, (AND, A, B))), ('-(a or b)', (NOT, (OR, A, B))),
                ('a -b or -c', (OR, (AND, A, (NOT, B)), (NOT, C))), ('--a', (NOT, (NOT, A))),
                ('-path:a', (NOT, ('path', 'a'))), ('path:a b', (AND, ('path', 'a'), B)),
                ('path:"a b"', ('path', 'a b')), ('path:a/b.c_d-e', ('path', 'a/b.c_d-e')), ('"or"', word('or')),
                ('path:"or"', ('path', 'or')), ('path:"-a"', ('path', '-a')), ('"-a"', word('-a')), ('""', word('')),
                ('path:""', ('path', '')), ('"a b"', word('a b')), ('"\\""', word('"')), ('"\\\\"', word('\\')),
                ('"a\\\\\\"b"', word('a\\"b')), ('"("', word('(')), ('path', word('path')), ('path path', (
                    AND, word('path'), word('path'))), ('"path:"', word('path:')), ('a-b', word('a-b')),
                ('OR', word('OR')), ('orb', word('orb')), ('nor', word('nor')), ('/x.Y_0-', word('/x.Y_0-')),
                ('_', word('_')), ('.', word('.')), ('a- b', (AND, word('a-'), B)), ('"%"', word('%')),
                ('"\n"', word('\n'))]:
            with self.subTest(text):
                self.assertEqual(parse_question(text), question)
                self.assertEqual(question_text(question), text)

    def test_needless_signs(self):
        for text, told in [('(a)', 'a'), ('"a"', 'a'), ('((a) (b))', 'a b'), ('(a b) c', 'a b c'), ('(a or b) or c',
                                                                                               'a or b or c'),
                           ('a or (b c)', 'a or b c'), ('  a   b ', 'a b'), ('-(a)', '-a'), ('-(-a)', '--a'),
                           ('- a', '-a'), ('path: a', 'path:a'), ('( a )', 'a'), ('a(b)', 'a b'), ('(a)(b)', 'a b'),
                           ('"a""b"', 'a b'), ('a"b"', 'a b'), ('"a"b', 'a b'), ('a or(b)', 'a or b'),
                           ('path:"a"', 'path:a'), ('(path:a)', 'path:a'), ('"path"', 'path'), ('a or -b', 'a or -b')]:
            with self.subTest(text):
                self.assertEqual(question_text(parse_question(text)), told)

    def test_texts_that_are_no_question(self):
        for text in ['', ' ', '(', ')', '()', '-', 'or', 'a or', 'or a', 'a or or b', '(a', 'a)', '(a))', 'path:',
                     'path:or', 'path:-a', 'path:(a)', 'path:path:a', '"', '"a', '"a\\', '"a\\"', '"\\a"', 'a:b', ':',
                     'Path:a', 'xpath:a', 'a or )', '-or', '- ', 'a + b', 'a,b', 'a=b', 'a%', '\\', "'a'", 'a\tb',
                     'a\nb', '(or)', '-)', '-(', '(-)', 'a or (', 'path:)', '"a" "', 'a*']:
            with self.subTest(text):
                self.assertRaises(QueryError, parse_question, text)

    def test_brackets_and_nots_within_each_other(self):
        for signs in ['(' * 20, '-' * 20, '(-' * 10, '-(' * 10]:
            closing = ')' * signs.count('(')
            self.assertEqual(words_of(parse_question('a ' + signs + 'b' + closing))[0], 'a')
            for more in '(-':
                text = signs + more + 'b' + closing + ')' * (more == '(')
                self.assertRaises(QueryError, parse_question, text)
                self.assertRaises(QueryError, parse_question, 'a or ' + text)
        # Those that stand side by side are not within each other.
        self.assertEqual(len(words_of(parse_question(' '.join(['(a)'] * 25)))), 25)
        self.assertEqual(words_of(parse_question(' '.join(['-a'] * 45) + ' b')), ['b'])
        self.assertEqual(len(words_of(parse_question(' or '.join(['(((a)))'] * 10)))), 10)

    def test_marks(self):
        self.assertEqual(words_of(parse_question(' '.join(['a'] * 100))), ['a'] * 100)
        self.assertRaises(QueryError, parse_question, ' '.join(['a'] * 101))
        self.assertEqual(words_of(parse_question(' or '.join(['a'] * 50) + ' b')), ['a'] * 50 + ['b'])
        self.assertRaises(QueryError, parse_question, ' or '.join(['a'] * 51))
        self.assertEqual(words_of(parse_question('(' + 'a ' * 98 + ')')), ['a'] * 98)
        self.assertRaises(QueryError, parse_question, '(' + 'a ' * 99 + ')')
        self.assertRaises(QueryError, parse_question, '-' + '"a" ' * 100)

    def test_quoted_words(self):
        for text, told in [('a', 'a'), ('', '""'), ('or', '"or"'), ('-', '"-"'), ('-a', '"-a"'), ('a-', 'a-'),
                           ('a b', '"a b"'), ('a"b', '"a\\"b"'), ('\\', '"\\\\"'), ('a:b', '"a:b"'), ('path', 'path'),
                           ('Aa0_./-', 'Aa0_./-'), ('(', '"("'), (' ', '" "')]:
            self.assertEqual(quoted_word(text), told)


class SomeQuestions:
    def __init__(self, seed):
        self.random = random.Random(seed)
        self.signs = 'ab:(\\"- o'

    def text(self, most):
        return ''.join(self.random.choice(self.signs) for _ in range(self.random.randrange(most)))

    def question(self, deep):
        kind = self.random.choice(['word', 'path', NOT, AND, AND, OR, OR] if deep else ['word'])
        if kind in ('word', 'path'):
            return kind, self.random.choice(['a', 'or', '-a', 'path', self.text(4)])
        return (kind, *[self.question(deep - 1) for _ in range(1 if kind == NOT else 2)])


class ReadBackTest(unittest.TestCase):
    def test_a_text_reads_back(self):
        some = SomeQuestions(1)
        for _ in range(500):
            question = some.question(4)
            text = question_text(question)
            self.assertEqual(parse_question(text), question)
            # Without one pair of its brackets, or quotes, it is another question, or none.
            for place, sign in enumerate(text):
                if sign == '(' and text[place:].count('"') == 0 and text[:place].count('"') == 0:
                    end = self.end_of(text, place)
                    shorter = text[:place] + text[place + 1:end] + text[end + 1:]
                    self.assertNotEqual(parse_question(shorter), question)

    def end_of(self, text, place):
        deep = 0
        for end in range(place, len(text)):
            deep += {'(': 1, ')': -1}.get(text[end], 0)
            if deep == 0:
                return end


class WordsTest(unittest.TestCase):
    def test_threes(self):
        for text, found in [('', ()), ('ab', ()), ('abc', ('abc',)), ('bcabc', ('abc', 'bca', 'cab')),
                            ('aaaa', ('aaa',)), ('a b', ('a b',))]:
            self.assertEqual(threes(text), found)

    def test_words_that_are_not_within_a_not(self):
        for text, words in [('a', ['a']), ('path:a', []), ('-a', []), ('--a', []), ('b a or c a', ['b', 'a', 'c', 'a']),
                            ('a -(b or c) (d path:e)', ['a', 'd'])]:
            self.assertEqual(words_of(parse_question(text)), words)


class IndexTest(unittest.TestCase):
    def setUp(self):
        self.index = Index()
        self.index.put('b/one', ('hello world', 'second line', 'hello'))
        self.index.put('a', ['world', 'he', 'llo'])
        self.index.put('c', ())

    def ask(self, text):
        return [path for path, _ in self.index.answers(parse_question(text))]

    def test_a_new_index(self):
        index = Index()
        self.assertEqual((index.texts, index.places, index.may_have('a')), ({}, {}, []))
        self.assertEqual(index.answers(parse_question('-a')), ())

    def test_what_is_kept(self):
        self.assertEqual(self.index.texts, {'b/one': ('hello world', 'second line', 'hello'),
                                            'a': ('world', 'he', 'llo'), 'c': ()})
        found = {three: sorted(paths) for three, paths in self.index.places.items()}
        self.assertEqual(found['wor'], ['a', 'b/one'])
        self.assertEqual(found['hel'], ['b/one'])
        self.assertEqual(found['o w'], ['b/one'])
        self.assertEqual(found['llo'], ['a', 'b/one'])
        self.assertEqual(sorted(found), sorted({line[place:place + 3] for lines in self.index.texts.values()
                                                for line in lines for place in range(len(line) - 2)}))

    def test_files_are_put_anew_and_dropped(self):
        self.index.put('a', ('worse',))
        self.assertEqual(self.index.texts['a'], ('worse',))
        self.assertEqual(sorted(self.index.places['wor']), ['a', 'b/one'])
        self.assertEqual(sorted(self.index.places['orl']), ['b/one'])
        self.index.drop('b/one')
        self.index.drop('nope')
        self.assertEqual({three: sorted(paths) for three, paths in self.index.places.items()},
                         {'wor': ['a'], 'ors': ['a'], 'rse': ['a']})
        self.assertEqual(sorted(self.index.texts), ['a', 'c'])
        self.index.put('a', ())
        self.assertEqual((self.index.places, self.ask('world'), self.ask('-x')), ({}, [], ['a', 'c']))

    def test_paths_that_may_have_a_text(self):
        for text, paths in [('world', ['a', 'b/one']), ('hello', ['b/one']), ('he', ['a', 'b/one', 'c']),
                            ('', ['a', 'b/one', 'c']), ('nope', []), ('lloxwor', [])]:
            self.assertEqual(self.index.may_have(text), paths)
        self.index.put('d', ('abcd', 'bcde'))
        # All three characters in a row are there, though not in one row.
        self.assertEqual(self.index.may_have('abcde'), ['d'])
        self.assertEqual(self.ask('abcde'), [])
        self.index.put('e', ('abcde',))
        self.assertEqual((self.index.may_have('abcde'), self.ask('abcde')), (['d', 'e'], ['e']))

    def test_what_holds(self):
        for text, paths in [('hello', ['b/one']), ('"o w"', ['b/one']), ('he', ['a', 'b/one']), ('Hello', []),
                            ('""', ['a', 'b/one']), ('path:one', ['b/one']), ('path:b/', ['b/one']),
                            ('path:""', ['a', 'b/one', 'c']), ('-he', ['c']), ('--he', ['a', 'b/one']),
                            ('world -second', ['a']), ('second or path:c', ['b/one', 'c']), ('he second', ['b/one'])]:
            with self.subTest(text):
                question = parse_question(text)
                self.assertEqual(self.ask(text), paths)
                self.assertEqual([path for path in ('a', 'b/one', 'c') if self.index.holds(question, path)], paths)

    def test_candidates(self):
        for text, paths in [('hello', ['b/one']), ('he', ['a', 'b/one', 'c']), ('path:one', ['b/one']),
                            ('-world', ['a', 'b/one', 'c']), ('-path:a', ['a', 'b/one', 'c']),
                            ('world path:b', ['b/one']), ('hello or path:c', ['b/one', 'c']),
                            ('hello path:a', []), ('world -path:b', ['a', 'b/one']), ('path:c or path:a', ['a', 'c'])]:
            with self.subTest(text):
                self.assertEqual(self.index.candidates(parse_question(text)), paths)

    def test_answers_tell_places(self):
        for text, answers in [('hello', (('b/one', (0, 2)),)), ('world', (('a', (0,)), ('b/one', (0,)))),
                              ('second hello', (('b/one', (0, 1, 2)),)), ('he -second', (('a', (1,)),)),
                              ('llo or path:c', (('a', (2,)), ('b/one', (0, 2)), ('c', ()))),
                              ('path:a', (('a', ()),)), ('--world', (('a', ()), ('b/one', ()))),
                              ('hello or nope', (('b/one', (0, 2)),)), ('nope', ()),
                              ('path:one -(line -hello)', (('b/one', ()),))]:
            with self.subTest(text):
                self.assertEqual(self.index.answers(parse_question(text)), answers)

    def test_candidates_hold_all_that_is_found(self):
        some = SomeQuestions(2)
        some.signs = 'ab'
        for _ in range(300):
            path = some.random.choice('abc') + '/' + some.text(3)
            self.index.put(path, [some.text(6) for _ in range(some.random.randrange(3))])
            self.index.drop(some.random.choice(list(self.index.texts)) if some.random.random() < 0.3 else 'nope')
            question = some.question(3)
            holds = [path for path in sorted(self.index.texts) if self.index.holds(question, path)]
            candidates = self.index.candidates(question)
            self.assertEqual(candidates, sorted(candidates))
            self.assertLessEqual(set(holds), set(candidates))
            self.assertEqual([path for path, _ in self.index.answers(question)], holds)
        fresh = Index()
        for path, lines in self.index.texts.items():
            fresh.put(path, lines)
        self.assertEqual({three: sorted(paths) for three, paths in self.index.places.items()},
                         {three: sorted(paths) for three, paths in fresh.places.items()})


if __name__ == '__main__':
    unittest.main()
