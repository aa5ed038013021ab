"""Point 8: changes, votes, remarks, rules, and what a change lacks."""

import unittest

from landstack.errors import ReviewError
from landstack.reviews import Change, Rules, lacks


class RulesTest(unittest.TestCase):
    def test_needed_votes(self):
        self.assertEqual((Rules().needed, Rules().sticky), (1, False))
        for needed in (0, 1, 9):
            self.assertEqual(Rules(needed).needed, needed)
        self.assertTrue(Rules(needed=2, owners={}, sticky=True).sticky)
        for needed in (10, -1, 99):
            self.assertRaises(ReviewError, Rules, needed)

    def test_the_longest_beginning_by_whole_names(self):
        rules = Rules(owners={'': ('root',), 'a': ('ann', 'al'), 'a/b': ['bob'], 'a/b/c': ('cy',), 'x.py': ('xi',)})
        for path, owners in [('q', ('root',)), ('ab', ('root',)), ('ab/b', ('root',)), ('a', ('ann', 'al')),
                             ('a/q', ('ann', 'al')), ('a/bc', ('ann', 'al')), ('a/b', ('bob',)), ('a/b/q', ('bob',)),
                             ('a/b/q/r', ('bob',)), ('a/b/c', ('cy',)), ('a/b/c/d/e', ('cy',)), ('x.py', ('xi',)),
                             ('x.pyc', ('root',)), ('b/a/b', ('root',))]:
            with self.subTest(path):
                self.assertEqual(rules.owners_of(path), owners)

    def test_no_owners(self):
        self.assertEqual(Rules().owners_of('a'), ())
        self.assertEqual(Rules(1, {}).owners_of('a/b'), ())
        self.assertEqual(Rules(1, {'a/b': ('bob',)}).owners_of('a'), ())
        self.assertEqual(Rules(1, {'a/b': ('bob',)}).owners_of('a/bb'), ())
        self.assertEqual(Rules(1, {'': ('root',), 'a': ()}).owners_of('a/b'), ())

    def test_a_table_that_changes_later(self):
        owners = {'a': ('ann',)}
        rules = Rules(1, owners)
        owners['a'] = ('bob',)
        self.assertEqual(rules.owners_of('a'), ('ann',))


class ChangeTest(unittest.TestCase):
    def setUp(self):
        self.change = Change(3, 'ann', 'main', 7)

    def test_a_new_change(self):
        change = self.change
        self.assertEqual((change.number, change.author, change.branch, change.head), (3, 'ann', 'main', 7))
        self.assertEqual((change.state, change.votes, change.remarks), ('open', {}, []))
        self.assertEqual(change.supporters(), [])

    def test_votes(self):
        for name, value in [('cy', 1), ('bob', 1), ('dan', -1), ('eve', 0)]:
            self.change.vote(name, value)
        self.assertEqual(self.change.votes, {'bob': 1, 'cy': 1, 'dan': -1})
        self.assertEqual(self.change.supporters(), ['bob', 'cy'])
        self.change.vote('cy', -1)
        self.change.vote('bob', 0)
        self.change.vote('dan', 1)
        self.assertEqual(self.change.votes, {'cy': -1, 'dan': 1})
        self.assertEqual(self.change.supporters(), ['dan'])

    def test_no_votes(self):
        self.change.vote('bob', 1)
        for name, value in [('ann', 1), ('ann', -1), ('ann', 0), ('bob', 2), ('bob', -2), ('cy', 10)]:
            with self.subTest(name=name, value=value):
                self.assertRaises(ReviewError, self.change.vote, name, value)
        self.assertEqual(self.change.votes, {'bob': 1})

    def test_votes_for_go_when_the_end_is_moved(self):
        for keep, votes in [(True, {'bob': 1, 'cy': -1, 'dan': 1}), (False, {'cy': -1})]:
            change = Change(0, 'ann', 'main', 1)
            for name, value in [('bob', 1), ('cy', -1), ('dan', 1)]:
                change.vote(name, value)
            change.move(2, keep)
            self.assertEqual((change.head, change.votes), (2, votes))

    def test_remarks(self):
        self.assertEqual(self.change.remark('bob', 'a', 0, 'why'), 0)
        self.assertEqual(self.change.remark('ann', 'a', 0, 'why'), 1)
        self.assertEqual(len(self.change.remarks), 2)
        self.assertEqual([row[0] for row in self.change.remarks], ['bob', 'ann'])
        self.change.settle(0)
        self.assertEqual(lacks(self.change, Rules(0), ()), ('remarks',))
        self.change.settle(0)
        self.change.settle(1)
        self.assertEqual(lacks(self.change, Rules(0), ()), ())
        self.assertEqual(self.change.remark('bob', 'a', 0, 'why'), 2)
        self.assertEqual(lacks(self.change, Rules(0), ()), ('remarks',))

    def test_unknown_remarks(self):
        self.assertRaises(ReviewError, self.change.settle, 0)
        self.change.remark('bob', 'a', 0, 'why')
        self.assertRaises(ReviewError, self.change.settle, 1)
        self.assertRaises(ReviewError, self.change.settle, -1)

    def test_states(self):
        for state in ('landed', 'dropped'):
            change = Change(0, 'ann', 'main', 1)
            change.vote('bob', 1)
            change.remark('bob', 'a', 0, 'why')
            change.state_to(state)
            self.assertEqual(change.state, state)
            for call in [lambda: change.vote('cy', 1), lambda: change.vote('bob', 0), lambda: change.settle(0),
                         lambda: change.remark('bob', 'a', 0, 'x'), lambda: change.move(2, True),
                         lambda: change.state_to('landed'), lambda: change.state_to('dropped')]:
                self.assertRaises(ReviewError, call)
            self.assertEqual((change.state, change.votes, len(change.remarks), change.head),
                             (state, {'bob': 1}, 1, 1))
            self.assertEqual(lacks(change, Rules(0), ()), ('remarks',))

    def test_no_end(self):
        self.assertRaises(ReviewError, self.change.state_to, 'open')
        self.assertEqual(self.change.state, 'open')


class LacksTest(unittest.TestCase):
    def setUp(self):
        self.change = Change(0, 'ann', 'main', 1)

    def test_enough_votes(self):
        self.assertEqual(lacks(self.change, Rules(0), ()), ())
        self.assertEqual(lacks(self.change, Rules(), ()), ('votes',))
        self.change.vote('bob', 1)
        self.assertEqual(lacks(self.change, Rules(), ()), ())
        self.assertEqual(lacks(self.change, Rules(2), ()), ('votes',))
        self.change.vote('cy', 1)
        self.assertEqual(lacks(self.change, Rules(2), ()), ())

    def test_votes_against(self):
        self.change.vote('bob', 1)
        self.change.vote('cy', 1)
        self.change.vote('dan', -1)
        self.assertEqual(lacks(self.change, Rules(2), ()), ('against',))
        self.assertEqual(lacks(self.change, Rules(3), ()), ('votes', 'against'))
        self.change.vote('dan', 0)
        self.assertEqual(lacks(self.change, Rules(2), ()), ())

    def test_owners(self):
        rules = Rules(0, {'a': ('bob', 'cy'), 'b': ('ann',), 'c': ('dan',)})
        self.assertEqual(lacks(self.change, rules, ('a/1', 'a/2', 'b/x', 'c', 'd')),
                         ('owner a/1', 'owner a/2', 'owner c'))
        self.change.vote('cy', 1)
        self.change.vote('dan', -1)
        self.assertEqual(lacks(self.change, rules, ('a/1', 'a/2', 'b/x', 'c', 'd')), ('against', 'owner c'))
        self.assertEqual(lacks(self.change, rules, ('d', 'a')), ('against',))

    def test_the_order(self):
        self.change.vote('dan', -1)
        self.change.remark('dan', 'a', 0, 'why')
        self.assertEqual(lacks(self.change, Rules(1, {'': ('root',)}), ('a', 'b')),
                         ('votes', 'against', 'remarks', 'owner a', 'owner b'))


if __name__ == '__main__':
    unittest.main()
