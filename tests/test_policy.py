"""Point 20: policies, their groups, their rules, and which of them decides."""

import itertools
import random
import re
import unittest

from landstack.errors import RightError
from landstack.policy import DEEDS_OF_POLICY, Policy, Rule, fits_path, rule_of


class RuleTest(unittest.TestCase):
    def test_a_rule(self):
        self.assertEqual(DEEDS_OF_POLICY, ('read', 'write', 'review', 'land', 'admin'))
        self.assertEqual(Rule('allow', 'ann', ['read'], '**').shown(), ('allow', 'ann', ('read',), '**'))
        self.assertEqual(rule_of('allow ann read docs/*').shown(), ('allow', 'ann', ('read',), 'docs/*'))
        self.assertEqual(rule_of('deny @ops land,read,admin **').shown(), ('deny', '@ops', ('land', 'read', 'admin'), '**'))
        self.assertEqual(rule_of('deny * read,write,review,land,admin a').shown(),
                         ('deny', '*', ('read', 'write', 'review', 'land', 'admin'), 'a'))

    def test_what_is_no_rule(self):
        for text in ('', 'allow', 'allow ann read', 'allow ann read a b', 'allow ann read, write a', ' allow ann read a',
                     'allow ann read a ', 'allow  ann read a', 'allow  read a', 'Allow ann read a', 'permit ann read a',
                     'allow ann\tread a', 'allow ann read '):
            self.assertRaises(RightError, rule_of, text)

    def test_deeds(self):
        for deeds in ('', ',', 'read,', ',read', 'read,,write', 'read,read', 'write,read,write', 'push', 'read,push', 'Read',
                      'read;write', '*'):
            self.assertRaises(RightError, rule_of, f'allow ann {deeds} a')

    def test_patterns(self):
        for pattern in ('a', 'x' * 60, '*' * 60, 'a-b/C_9.*/**', '/', '//', '***'):
            self.assertEqual(rule_of(f'allow ann read {pattern}').shown()[3], pattern)
        for pattern in ('x' * 61, '*' * 61, 'a?', 'a+b', '[a]', 'a\\b', '@', '\u00e4', 'a:b'):
            self.assertRaises(RightError, rule_of, f'allow ann read {pattern}')


class FitTest(unittest.TestCase):
    def check(self, pattern, fitting, others):
        for path in fitting:
            self.assertIs(fits_path(pattern, path), True, (pattern, path))
        for path in others:
            self.assertIs(fits_path(pattern, path), False, (pattern, path))

    def test_the_whole_path_alone(self):
        self.check('a/b', ['a/b'], ['a', 'a/b/c', 'xa/b', 'a/bb', 'A/b', ''])
        self.check('a.b', ['a.b'], ['axb'])
        self.check('/', [], ['a', 'a/b'])

    def test_within_one_name(self):
        self.check('*', ['a', 'abc', 'a.b'], ['a/b'])
        self.check('a*', ['a', 'ab', 'abc'], ['ba', 'a/b'])
        self.check('*a', ['a', 'ba', 'aaa'], ['ab', 'b/a'])
        self.check('docs/*', ['docs/a', 'docs/a.b'], ['docs', 'docs/a/b', 'xdocs/a'])
        self.check('*/b', ['a/b'], ['b', 'a/c/b'])
        self.check('a*c*e', ['ace', 'abcde', 'acce', 'accce'], ['ac', 'abde', 'ac/e', 'acef'])
        self.check('*.py', ['a.py', '.py', 'a.py.py'], ['a/b.py', 'a.pyc'])

    def test_over_names(self):
        self.check('**', ['a', 'a/b', 'a/b/c'], [])
        self.check('a/**', ['a/b', 'a/b/c'], ['a', 'ab/c', 'b/a/c'])
        self.check('a**', ['a', 'ab', 'a/b', 'ab/c/d'], ['b', 'b/a'])
        self.check('**b', ['b', 'a/b', 'a/c/bb'], ['a', 'b/a'])
        self.check('a/**/b', ['a/c/b', 'a/c/d/b'], ['a/b', 'a/c/bc'])
        self.check('**/test_*', ['a/test_b', 'a/b/test_'], ['test_a', 'a/test_b/c'])

    def test_both_beside_each_other(self):
        self.check('***', ['a', 'a/b'], [])
        self.check('a***c', ['ac', 'abc', 'a/b/c'], ['ab'])
        self.check('*a**b*', ['ab', 'xaxbx', 'a/b', 'xa/y/bx'], ['x/ab', 'ab/x', 'ba'])
        self.check('**/*/**', ['a/b/c', 'a/b/c/d'], ['a', 'a/b'])

    def test_many_patterns_against_another_way(self):
        drawn = random.Random(9)
        fitting = 0
        for _ in range(3000):
            pattern = ''.join(drawn.choice(['a', 'b', '/', '*', '**', '.']) for _ in range(drawn.randrange(1, 6)))
            path = ''.join(drawn.choice('aab/.') for _ in range(drawn.randrange(1, 7)))
            text = re.escape(pattern).replace(r'\*\*', '.*').replace(r'\*', '[^/]*')
            expected = re.fullmatch(text, path) is not None
            fitting += expected
            self.assertIs(fits_path(pattern, path), expected, (pattern, path))
        self.assertGreater(fitting, 300)

    def test_a_long_pattern_takes_no_long_time(self):
        self.assertFalse(fits_path('*a' * 30, 'a' * 200 + 'b'))
        self.assertTrue(fits_path('**a' * 20, 'a' * 200))


class GroupTest(unittest.TestCase):
    def setUp(self):
        self.policy = Policy()

    def put(self, **groups):
        for name, members in groups.items():
            self.policy.put_group(name, members.split())

    def refused(self, name, *members):
        before = dict(self.policy.groups)
        self.assertRaises(RightError, self.policy.put_group, name, members)
        self.assertEqual(self.policy.groups, before)

    def test_who_is_in_which_group(self):
        self.assertEqual((self.policy.groups, self.policy.rules), ({}, []))
        self.put(ops='ann bob', dev='bob cy @ops', all='@dev @guests', z='ann')
        self.assertEqual(self.policy.groups, {'ops': ('ann', 'bob'), 'dev': ('bob', 'cy', '@ops'),
                                              'all': ('@dev', '@guests'), 'z': ('ann',)})
        self.assertEqual(self.policy.groups_of('ann'), ('all', 'dev', 'ops', 'z'))
        self.assertEqual(self.policy.groups_of('cy'), ('all', 'dev'))
        self.assertEqual(self.policy.groups_of('dee'), ())
        # A group that was not told has nobody until it is.
        self.put(guests='dee')
        self.assertEqual(self.policy.groups_of('dee'), ('all', 'guests'))

    def test_a_group_is_told_anew(self):
        self.put(ops='ann bob', dev='@ops')
        self.put(ops='cy')
        self.assertEqual(self.policy.groups_of('ann'), ())
        self.assertEqual(self.policy.groups_of('cy'), ('dev', 'ops'))
        self.put(ops='')
        self.assertEqual(self.policy.groups_of('cy'), ())

    def test_a_person_is_no_group(self):
        self.put(ann='bob', dev='ann')
        self.assertEqual(self.policy.groups_of('bob'), ('ann',))
        self.assertEqual(self.policy.groups_of('ann'), ('dev',))

    def test_bad_names(self):
        self.put(ops='ann')
        self.refused('@ops', 'ann')
        self.refused('@', 'ann')
        self.refused('*', 'ann')
        self.refused('dev', 'ann', '*')
        self.refused('ops', '*')
        self.assertEqual(self.policy.groups_of('ann'), ('ops',))

    def test_rings(self):
        self.refused('a', '@a')
        self.put(a='ann @b', b='bob @c')
        self.refused('c', 'cy', '@a')
        self.refused('b', '@b')
        self.refused('b', '@a')
        self.put(c='cy')
        self.refused('c', '@b')
        self.assertEqual(self.policy.groups_of('cy'), ('a', 'b', 'c'))

    def test_ten_and_eleven_within_each_other(self):
        for number in range(9):
            self.policy.put_group(f'g{number}', [f'@g{number + 1}'])
        self.policy.put_group('g9', ['ann', '@untold'])
        self.assertEqual(len(self.policy.groups_of('ann')), 10)
        self.refused('g10', '@g0')
        self.refused('untold', 'bob')
        self.put(other='@g2 @g5', g9='')
        self.refused('more', '@other', '@g0')
        self.refused('g9', '@lower', '@g0')
        self.put(more='@other')
        self.refused('top', '@more')


class PolicyTest(unittest.TestCase):
    def setUp(self):
        self.policy = Policy()
        self.policy.put_group('ops', ['ann', 'bob'])
        self.policy.put_group('dev', ['@ops', 'cy'])

    def rules(self, *texts):
        for text in texts:
            self.policy.put_rule(text)

    def decided(self, person, deed, path):
        return self.policy.deciding(person, deed, path), self.policy.may(person, deed, path)

    def test_without_a_rule(self):
        self.assertEqual(self.decided('ann', 'read', 'a'), (None, False))
        self.rules('allow bob read **', 'allow ann write **', 'allow ann read b')
        self.assertEqual(self.decided('ann', 'read', 'a'), (None, False))

    def test_rules_are_kept_in_their_order(self):
        self.rules('allow ann read **', 'deny * read a')
        self.assertEqual([rule.shown() for rule in self.policy.rules],
                         [('allow', 'ann', ('read',), '**'), ('deny', '*', ('read',), 'a')])
        self.assertRaises(RightError, self.policy.put_rule, 'allow ann a')
        self.assertEqual(len(self.policy.rules), 2)

    def test_the_last_deny_else_the_last_allow(self):
        self.rules('allow ann read **', 'allow * read a', 'deny ann read a/b', 'deny * read a/*', 'allow ann read a/b')
        self.assertEqual(self.decided('ann', 'read', 'a'), (1, True))
        self.assertEqual(self.decided('ann', 'read', 'b'), (0, True))
        self.assertEqual(self.decided('ann', 'read', 'a/b'), (3, False))
        self.assertEqual(self.decided('bob', 'read', 'a/b'), (3, False))
        self.rules('deny ann read a/b')
        self.assertEqual(self.decided('ann', 'read', 'a/b'), (5, False))

    def test_groups_and_all(self):
        self.rules('allow @dev read **', 'deny @ops read secret', 'allow * review **')
        self.assertEqual(self.decided('ann', 'read', 'a'), (0, True))
        self.assertEqual(self.decided('cy', 'read', 'secret'), (0, True))
        self.assertEqual(self.decided('bob', 'read', 'secret'), (1, False))
        self.assertEqual(self.decided('dee', 'read', 'a'), (None, False))
        self.assertEqual(self.decided('dee', 'review', 'a'), (2, True))
        self.assertEqual(self.decided('dev', 'read', 'a'), (None, False))
        self.policy.put_group('ops', ['dee'])
        self.assertEqual(self.decided('dee', 'read', 'secret'), (1, False))
        self.assertEqual(self.decided('ann', 'read', 'a'), (None, False))

    def test_a_rule_for_admin_speaks_of_every_deed(self):
        self.rules('allow ann admin **', 'deny ann land a', 'allow bob read,write **', 'deny bob read,admin a')
        for deed in DEEDS_OF_POLICY:
            self.assertEqual(self.decided('ann', deed, 'b'), (0, True))
            self.assertEqual(self.decided('bob', deed, 'a'), (3, False))
        self.assertEqual(self.decided('ann', 'land', 'a'), (1, False))
        self.assertEqual(self.decided('ann', 'admin', 'a'), (0, True))
        self.assertEqual(self.decided('bob', 'write', 'b'), (2, True))
        self.assertEqual(self.decided('bob', 'admin', 'b'), (None, False))

    def test_a_deed_that_is_none(self):
        self.rules('allow * admin **')
        for deed in ('push', '', 'Read', '*', 'read,write'):
            self.assertRaises(RightError, self.policy.may, 'ann', deed, 'a')
            self.assertRaises(RightError, self.policy.who_may, ['ann'], deed, 'a')

    def test_who_may_in_their_order(self):
        self.rules('allow @dev read **', 'deny bob read **')
        self.assertEqual(self.policy.who_may(['cy', 'dee', 'bob', 'ann'], 'read', 'a'), ('cy', 'ann'))
        self.assertEqual(self.policy.who_may([], 'read', 'a'), ())

    def test_all_rights_in_order(self):
        self.rules('allow ann land,read **', 'deny ann read b', 'allow bob admin b')
        self.assertEqual(self.policy.all_rights(['bob', 'ann'], ['b', 'a']), (
            ('bob', 'read', 'b'), ('bob', 'write', 'b'), ('bob', 'review', 'b'), ('bob', 'land', 'b'), ('bob', 'admin', 'b'),
            ('ann', 'read', 'a'), ('ann', 'land', 'b'), ('ann', 'land', 'a')))
        self.assertEqual(self.policy.all_rights([], ['a']), ())
        self.assertEqual(self.policy.all_rights(['ann'], []), ())

    def test_useless_rules(self):
        self.rules('allow ann read **', 'allow @ops read **', 'deny ann write **', 'allow cy land a', 'deny * land a',
                   'deny cy land **', 'allow dee read a')
        # Either rule that lets ann read would do, but bob needs the second; nobody may write, so none has to deny it.
        self.assertEqual(self.policy.useless(['ann', 'bob', 'cy'], ['a', 'b']), (0, 2, 3, 4, 5, 6))
        self.assertEqual(self.policy.useless(['ann', 'bob', 'cy', 'dee'], ['a', 'b']), (0, 2, 3, 4, 5))
        self.assertEqual(self.policy.useless(['ann'], ['a']), (0, 1, 2, 3, 4, 5, 6))
        self.assertEqual(self.policy.useless([], []), (0, 1, 2, 3, 4, 5, 6))
        self.assertEqual(Policy().useless(['ann'], ['a']), ())

    def test_a_rule_that_alone_denies(self):
        self.rules('allow ann read **', 'deny ann read a', 'allow ann read b')
        self.assertEqual(self.policy.useless(['ann'], ['a']), (0, 2))
        self.assertEqual(self.policy.useless(['ann'], ['b']), (0, 1, 2))
        self.assertEqual(self.policy.useless(['ann'], ['a', 'c']), (2,))

    def test_useless_rules_of_many_policies_by_leaving_each_out(self):
        drawn = random.Random(2)
        persons, paths = ['ann', 'bob', 'cy'], ['a', 'b', 'a/b']
        found = 0
        for _ in range(60):
            texts = [' '.join([drawn.choice(['allow', 'allow', 'deny']), drawn.choice(['ann', 'bob', '@ops', '@dev', '*']),
                               ','.join(drawn.sample(DEEDS_OF_POLICY, drawn.randrange(1, 3))),
                               drawn.choice(['a', '*', '**', 'a/*', 'b'])]) for _ in range(drawn.randrange(1, 7))]
            self.policy.rules = []
            self.rules(*texts)
            told, rights = self.policy.useless(persons, paths), self.policy.all_rights(persons, paths)
            self.assertEqual(rights, tuple(row for row in itertools.product(persons, DEEDS_OF_POLICY, paths)
                                           if self.policy.may(*row)))
            for place in range(len(texts)):
                self.policy.rules = []
                self.rules(*texts[:place], *texts[place + 1:])
                self.assertEqual(place in told, self.policy.all_rights(persons, paths) == rights)
            found += len(told)
        self.assertGreater(found, 30)


if __name__ == '__main__':
    unittest.main()
