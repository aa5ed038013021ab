"""Point 17: versions, ranges, and packages that fit together."""

import itertools
import random
import unittest

from landstack.errors import VersionError
from landstack.versions import (SIGNS_OF_RANGES, Shelf, Solver, conflicts, in_range, parse_range, parse_version,
                                range_text, upper_of, version_text)


def ranges(**needs):
    return [(name, parse_range(text)) for name, text in needs.items()]


def shelf_of(*rows):
    shelf = Shelf()
    for name, version, needs in rows:
        shelf.put(name, parse_version(version), ranges(**needs))
    return shelf


class VersionTest(unittest.TestCase):
    def test_versions(self):
        for text, version in [('0.0.0', (0, 0, 0)), ('1.2.3', (1, 2, 3)), ('9999.0.9999', (9999, 0, 9999)),
                              ('10.20.300', (10, 20, 300))]:
            self.assertEqual(parse_version(text), version)
            self.assertEqual(version_text(version), text)

    def test_what_is_no_version(self):
        for text in ('', '1', '1.2', '1.2.3.4', '1..3', '.2.3', '1.2.', '01.2.3', '1.00.3', '1.2.03', '10000.0.0',
                     '0.0.10000', '1.2.x', '-1.2.3', '1.2.3 ', ' 1.2.3', '1,2,3', 'v1.2.3', '1.+2.3', '1.2.\u0663', '...'):
            self.assertRaises(VersionError, parse_version, text)

    def test_ranges_with_each_sign(self):
        self.assertEqual(SIGNS_OF_RANGES, ('^', '~', '>=', '<=', '<', '>', ''))
        for sign in SIGNS_OF_RANGES:
            self.assertEqual(parse_range(sign + '1.2.3'), ((sign, (1, 2, 3)),))
        self.assertEqual(parse_range('*'), ())
        self.assertEqual(parse_range('>=1.0.0 <2.0.0 1.5.0'),
                         (('>=', (1, 0, 0)), ('<', (2, 0, 0)), ('', (1, 5, 0))))

    def test_what_is_no_range(self):
        for text in ('', ' ', '>=1.0.0  <2.0.0', ' 1.0.0', '1.0.0 ', '* ', '* 1.0.0', '**', '=1.0.0', '>', '^', '> 1.0.0',
                     '^1.0', '~1.0.0.0', '<01.0.0', '^^1.0.0', '>=>1.0.0', '1.0.0,2.0.0', '^10000.0.0', '>=1.0.0\n<2.0.0'):
            self.assertRaises(VersionError, parse_range, text)

    def test_a_ranges_text_reads_back(self):
        for text in ('*', '1.2.3', '^0.0.0', '~1.2.3', '>=1.0.0 <2.0.0', '<=9999.9999.9999 >0.0.0 1.0.0'):
            self.assertEqual(range_text(parse_range(text)), text)
        self.assertEqual(range_text(()), '*')

    def test_upper_of(self):
        for sign, version, upper in [('^', '1.2.3', (2, 0, 0)), ('^', '0.2.3', (0, 3, 0)), ('^', '0.0.3', (0, 0, 4)),
                                     ('^', '0.0.0', (0, 0, 1)), ('^', '1.0.0', (2, 0, 0)), ('^', '0.1.0', (0, 2, 0)),
                                     ('~', '1.2.3', (1, 3, 0)), ('~', '0.2.3', (0, 3, 0)), ('~', '0.0.3', (0, 1, 0)),
                                     ('~', '0.0.0', (0, 1, 0)), ('^', '9999.1.1', (10000, 0, 0))]:
            self.assertEqual(upper_of(sign, parse_version(version)), upper)

    def test_in_range(self):
        held = {'^1.2.3': ('1.2.3', '1.2.4', '1.9999.0'), '~1.2.3': ('1.2.3', '1.2.9999'), '>=1.2.3': ('1.2.3', '2.0.0'),
                '<=1.2.3': ('1.2.3', '1.2.2', '0.0.0'), '<1.2.3': ('1.2.2', '0.0.0'), '>1.2.3': ('1.2.4', '1.10.0'),
                '1.2.3': ('1.2.3',), '^0.2.3': ('0.2.3', '0.2.4'), '^0.0.3': ('0.0.3',), '^0.0.0': ('0.0.0',),
                '~0.0.3': ('0.0.3', '0.0.4'), '*': ('0.0.0', '9999.9999.9999'), '>=1.0.0 <2.0.0': ('1.0.0', '1.9.9')}
        kept = {'^1.2.3': ('1.2.2', '2.0.0', '0.2.3'), '~1.2.3': ('1.2.2', '1.3.0'), '>=1.2.3': ('1.2.2',),
                '<=1.2.3': ('1.2.4', '1.10.0'), '<1.2.3': ('1.2.3',), '>1.2.3': ('1.2.3',), '1.2.3': ('1.2.4', '1.2.2'),
                '^0.2.3': ('0.3.0', '0.2.2'), '^0.0.3': ('0.0.4', '0.0.2'), '^0.0.0': ('0.0.1',), '~0.0.3': ('0.1.0',),
                '*': (), '>=1.0.0 <2.0.0': ('0.9.9', '2.0.0')}
        for text in held:
            for version in held[text]:
                self.assertIs(in_range(parse_version(version), parse_range(text)), True, (text, version))
            for version in kept[text]:
                self.assertIs(in_range(parse_version(version), parse_range(text)), False, (text, version))


class ShelfTest(unittest.TestCase):
    def test_versions_the_greatest_first(self):
        shelf = shelf_of(('a', '1.9.0', {}), ('a', '1.10.0', {}), ('a', '0.99.99', {}), ('b', '1.0.0', {'a': '^1.0.0'}))
        self.assertEqual(shelf.versions('a'), [(1, 10, 0), (1, 9, 0), (0, 99, 99)])
        self.assertEqual(shelf.versions('b'), [(1, 0, 0)])
        self.assertEqual(shelf.versions('c'), [])
        self.assertEqual(shelf.rows['b'], {(1, 0, 0): (('a', (('^', (1, 0, 0)),)),)})

    def test_what_cannot_be_put_there(self):
        shelf = shelf_of(('a', '1.0.0', {}))
        before = {'a': {(1, 0, 0): ()}}
        for name, version, needs in [('a', '1.0.0', {}), ('a', '1.0.0', {'b': '*'}), ('a', '2.0.0', {'a': '*'}),
                                     ('b', '1.0.0', {'b': '^1.0.0'})]:
            self.assertRaises(VersionError, shelf.put, name, parse_version(version), ranges(**needs))
            self.assertEqual(shelf.rows, before)
        twice = ranges(b='^1.0.0') + ranges(b='<1.5.0')
        self.assertRaises(VersionError, shelf.put, 'c', (1, 0, 0), twice)
        self.assertEqual(shelf.rows, before)
        shelf.put('a', (1, 0, 1), [])
        self.assertEqual(shelf.versions('a'), [(1, 0, 1), (1, 0, 0)])


class SolverTest(unittest.TestCase):
    def solve(self, shelf, **needs):
        return {name: version_text(version) for name, version in Solver(shelf).solve(ranges(**needs)).items()}

    def test_the_greatest_that_fits(self):
        shelf = shelf_of(('a', '1.0.0', {}), ('a', '1.2.0', {}), ('a', '2.0.0', {}))
        self.assertEqual(self.solve(shelf), {})
        self.assertEqual(self.solve(shelf, a='*'), {'a': '2.0.0'})
        self.assertEqual(self.solve(shelf, a='^1.0.0'), {'a': '1.2.0'})
        solver = Solver(shelf)
        self.assertEqual(solver.tries, 0)
        self.assertEqual(solver.solve(ranges(a='^1.0.0') + ranges(a='<1.2.0')), {'a': (1, 0, 0)})
        self.assertEqual(solver.tries, 3)

    def test_an_older_version_behind_a_dead_end(self):
        shelf = shelf_of(('a', '2.0.0', {'c': '^2.0.0'}), ('a', '1.0.0', {'c': '^1.0.0'}), ('b', '1.0.0', {'c': '<2.0.0'}),
                         ('c', '1.0.0', {}), ('c', '2.0.0', {}), ('c', '1.5.0', {'d': '*'}))
        self.assertEqual(self.solve(shelf, a='*', b='*'), {'a': '1.0.0', 'b': '1.0.0', 'c': '1.0.0'})
        self.assertEqual(self.solve(shelf, a='*'), {'a': '2.0.0', 'c': '2.0.0'})

    def test_the_first_package_by_name_is_chosen_first(self):
        # Either of both could have its greatest version: the one that is chosen first has it.
        rows = [(name, version, {'x': need}) for name in 'ab' for version, need in [('2.0.0', '2.0.0'), ('1.0.0', '*')]]
        rows[0], rows[2] = ('a', '2.0.0', {'x': '2.0.0'}), ('b', '2.0.0', {'x': '1.0.0'})
        shelf = shelf_of(*rows, ('x', '2.0.0', {}), ('x', '1.0.0', {}))
        for needs in ({'a': '*', 'b': '*'}, {'b': '*', 'a': '*'}):
            self.assertEqual(self.solve(shelf, **needs), {'a': '2.0.0', 'b': '1.0.0', 'x': '2.0.0'})
        # What is needed by others takes its turn by name, too, ahead of what was told from outside.
        shelf = shelf_of(('b', '1.0.0', {'a': '*'}), ('a', '2.0.0', {'c': '1.0.0'}), ('a', '1.0.0', {}),
                         ('c', '2.0.0', {}), ('c', '1.0.0', {}))
        self.assertEqual(self.solve(shelf, b='*', c='*'), {'a': '2.0.0', 'b': '1.0.0', 'c': '1.0.0'})

    def test_needs_that_hold_each_other(self):
        shelf = shelf_of(('a', '1.0.0', {'b': '^1.0.0'}), ('b', '1.0.0', {'a': '^1.0.0'}), ('b', '1.1.0', {'a': '^2.0.0'}))
        self.assertEqual(self.solve(shelf, a='*'), {'a': '1.0.0', 'b': '1.0.0'})
        self.assertEqual(self.solve(shelf, b='*'), {'a': '1.0.0', 'b': '1.0.0'})

    def test_nothing_fits(self):
        shelf = shelf_of(('a', '1.0.0', {'b': '^1.0.0'}), ('b', '2.0.0', {}), ('c', '1.0.0', {'nothing': '*'}))
        solver = Solver(shelf)
        for needs in ({'a': '*'}, {'b': '<2.0.0'}, {'nothing': '*'}, {'c': '*'}, {'b': '*', 'c': '*'}):
            self.assertRaises(VersionError, solver.solve, ranges(**needs))
            self.assertEqual(solver.tries, 0)
        self.assertEqual(solver.solve(ranges(b='*')), {'b': (2, 0, 0)})

    def test_five_thousand_tries(self):
        # Each version of "a" is tried, with "b" behind it: 50 times 99 and 50 are 5000.
        rows = [('a', f'{n}.0.0', {'b': '*'}) for n in range(50)] + [('b', f'{n}.0.0', {'z': '*'}) for n in range(99)]
        shelf = shelf_of(*rows)
        solver = Solver(shelf)
        self.assertRaises(VersionError, solver.solve, ranges(a='*'))
        shelf.rows['a'][(0, 0, 0)] = ()
        self.assertEqual(solver.solve(ranges(a='*')), {'a': (0, 0, 0)})
        self.assertEqual(solver.tries, 49 * 100 + 1)
        for number in range(99, 101):
            shelf.put('b', (number, 0, 0), ranges(z='*'))
        self.assertEqual(solver.solve(ranges(a='*')), {'a': (0, 0, 0)})
        self.assertEqual(solver.tries, 49 * 102 + 1)
        shelf.put('b', (101, 0, 0), ranges(z='*'))
        self.assertRaises(VersionError, solver.solve, ranges(a='*'))
        self.assertEqual(solver.tries, 49 * 102 + 1)

    def test_just_five_thousand(self):
        shelf = shelf_of(*[('a', f'{n}.0.0', {}) for n in range(5001)])
        solver = Solver(shelf)
        self.assertEqual(solver.solve(ranges(a='1.0.0')), {'a': (1, 0, 0)})
        self.assertEqual(solver.tries, 5000)
        self.assertRaises(VersionError, solver.solve, ranges(a='0.0.0'))

    def test_a_hundred_packages(self):
        names = [f'p{n:03}' for n in range(101)]
        rows = [(name, '1.0.0', {other: '*'}) for name, other in zip(names, names[1:])] + [(names[-1], '1.0.0', {})]
        shelf = shelf_of(*rows)
        self.assertEqual(sorted(Solver(shelf).solve([(names[1], ())])), names[1:])
        self.assertRaises(VersionError, Solver(shelf).solve, [(names[0], ())])
        self.assertRaises(VersionError, Solver(shelf).solve, [(name, ()) for name in names])

    def test_many_shelves_against_all_tables(self):
        drawn = random.Random(3)
        texts = ['*', '^1.0.0', '^2.0.0', '<2.0.0', '>=1.1.0', '~1.0.0', '1.0.0', '>1.0.0']
        solved = 0
        for _ in range(150):
            names = 'abcd'
            shelf = Shelf()
            for name in names:
                for version in drawn.sample(['1.0.0', '1.1.0', '2.0.0'], drawn.randrange(4)):
                    others = drawn.sample([one for one in names if one != name], drawn.randrange(3))
                    shelf.put(name, parse_version(version), [(one, parse_range(drawn.choice(texts))) for one in others])
            needs = [(name, parse_range(drawn.choice(texts))) for name in drawn.sample(names, drawn.randrange(1, 4))]
            fitting = any(not conflicts({name: version for name, version in zip(names, row) if version}, needs, shelf)
                          for row in itertools.product(*[[None, *shelf.versions(name)] for name in names]))
            try:
                found = Solver(shelf).solve(needs)
            except VersionError:
                self.assertFalse(fitting)
                continue
            solved += 1
            self.assertEqual(conflicts(found, needs, shelf), ())
            self.assertEqual(found, self.first_table(shelf, needs))
        self.assertGreater(solved, 20)

    def first_table(self, shelf, needs, picked=()):
        """The first table that fits, found by trying whole tables, and looking at them at the end alone."""
        picked = dict(picked)
        rows = list(needs) + [row for name in picked for row in shelf.rows[name][picked[name]]]
        missing = sorted(name for name, _ in rows if name not in picked)
        if not missing:
            return picked if not conflicts(picked, needs, shelf) else None
        for version in shelf.versions(missing[0]):
            found = self.first_table(shelf, needs, {**picked, missing[0]: version})
            if found is not None:
                return found
        return None


class ConflictsTest(unittest.TestCase):
    def setUp(self):
        self.shelf = shelf_of(('a', '1.0.0', {'c': '^1.0.0', 'b': '^1.0.0'}), ('b', '1.0.0', {}), ('b', '2.0.0', {}),
                              ('c', '1.0.0', {'a': '*'}))

    def test_none(self):
        picked = {'a': (1, 0, 0), 'b': (1, 0, 0), 'c': (1, 0, 0)}
        self.assertEqual(conflicts(picked, ranges(a='*'), self.shelf), ())
        self.assertEqual(conflicts({}, [], self.shelf), ())

    def test_needs_from_outside_stand_first_in_their_order(self):
        needs = ranges(z='*', b='^1.0.0', a='^2.0.0') + ranges(a='*')
        picked = {'c': (1, 0, 0), 'b': (2, 0, 0), 'a': (1, 0, 0)}
        self.assertEqual(conflicts(picked, needs, self.shelf), (('', 'z'), ('', 'b'), ('', 'a'), ('a', 'b')))

    def test_needs_of_packages_by_name_in_their_order(self):
        self.assertEqual(conflicts({'c': (1, 0, 0)}, [], self.shelf), (('c', 'a'),))
        self.assertEqual(conflicts({'a': (1, 0, 0)}, [], self.shelf), (('a', 'c'), ('a', 'b')))

    def test_a_picked_version_that_is_not_on_the_shelf(self):
        self.assertEqual(conflicts({'b': (1, 5, 0)}, ranges(b='^1.0.0'), self.shelf), (('', 'b'),))
        self.assertEqual(conflicts({'z': (1, 0, 0), 'c': (1, 0, 0), 'a': (3, 0, 0)}, ranges(y='*'), self.shelf),
                         (('', 'y'), ('', 'a'), ('', 'z')))


if __name__ == '__main__':
    unittest.main()
