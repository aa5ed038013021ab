"""Point 16: builds, of which only those things are made anew that have to be."""

import random
import unittest

from landstack.builds import Builder, Recipes, Target, digest_of
from landstack.errors import BuildError, ContentError, HostError

MODULUS = 2 ** 61 - 1


def recipes(*rows):
    return Recipes([Target(name, files, targets, recipe) for name, files, targets, recipe in rows])


class DigestTest(unittest.TestCase):
    def test_of_nothing_of_an_empty_text_and_of_several(self):
        self.assertEqual(digest_of(()), 7)
        self.assertEqual(digest_of(('',)), 7 * 1000003 + 1114112)
        self.assertEqual(digest_of(('a',)), (7 * 1000003 + 97) * 1000003 + 1114112)
        value = 7
        for number in (97, 98, 1114112, 1114112, 99, 1114112):
            value = (value * 1000003 + number) % MODULUS
        self.assertEqual(digest_of(('ab', '', 'c')), value)
        self.assertEqual(digest_of(['ab', '', 'c']), value)

    def test_where_texts_end_counts(self):
        rows = [(), ('',), ('', ''), ('ab',), ('a', 'b'), ('b', 'a'), ('', 'ab'), ('ab', '')]
        self.assertEqual(len({digest_of(row) for row in rows}), len(rows))


class RecipesTest(unittest.TestCase):
    def test_order_puts_each_behind_those_it_needs_once(self):
        plan = recipes(('app', ('m',), ('lib', 'base'), 'x'), ('base', (), (), 'x'), ('lib', (), ('base', 'gen'), 'x'),
                       ('gen', (), (), 'x'), ('doc', (), ('gen',), 'x'))
        self.assertEqual(plan.order(['app']), ['base', 'gen', 'lib', 'app'])
        self.assertEqual(plan.order(('doc', 'app')), ['gen', 'doc', 'base', 'lib', 'app'])
        self.assertEqual(plan.order(['gen', 'gen']), ['gen'])
        self.assertEqual(plan.order([]), [])

    def test_a_targets_own_targets_come_in_their_order(self):
        plan = recipes(('z', (), (), 'x'), ('a', (), (), 'x'), ('m', (), (), 'x'), ('t', (), ('z', 'a', 'm'), 'x'))
        self.assertEqual(plan.order(['t']), ['z', 'a', 'm', 't'])

    def test_unknown_names_when_something_is_asked_for(self):
        plan = recipes(('a', (), (), 'x'))
        self.assertRaises(BuildError, plan.order, ['b'])
        self.assertRaises(BuildError, plan.order, ['a', 'b'])

    def test_rings_are_found_when_the_targets_are_told(self):
        self.assertRaises(BuildError, recipes, ('a', (), ('a',), 'x'))
        self.assertRaises(BuildError, recipes, ('c', (), (), 'x'), ('a', (), ('b',), 'x'), ('b', (), ('c', 'a'), 'x'))

    def test_unknown_targets_and_names_told_twice(self):
        self.assertRaises(BuildError, recipes, ('a', (), ('b',), 'x'))
        self.assertRaises(BuildError, recipes, ('a', ('b',), (), 'x'), ('a', (), (), 'y'))
        # What is needed may be told later, or twice.
        self.assertEqual(recipes(('a', (), ('b', 'b'), 'x'), ('b', (), (), 'x')).order(['a']), ['b', 'a'])

    def test_names_that_are_none(self):
        for name in ('', '.', '..', 'a/b', 'a b', 'a' * 31, '@'):
            self.assertRaises(ContentError, recipes, (name, (), (), 'x'))
        for name in ('a' * 30, 'A.b_-9', '...'):
            self.assertEqual(recipes((name, (), (), 'x')).order([name]), [name])

    def test_sixty_and_sixty_one(self):
        rows = [(f't{n}', (), (f't{n - 1}',) if n else (), 'x') for n in range(60)]
        self.assertEqual(recipes(*rows).order(['t59']), [f't{n}' for n in range(60)])
        self.assertRaises(BuildError, recipes, *rows, ('t60', (), (), 'x'))
        self.assertEqual(recipes().order([]), [])

    def test_needing(self):
        plan = recipes(('gen', ('g',), (), 'x'), ('lib', ('l', 's'), ('gen',), 'x'), ('app', ('m',), ('lib',), 'x'),
                       ('doc', ('s',), (), 'x'))
        self.assertEqual(plan.needing(['g']), ['app', 'gen', 'lib'])
        self.assertEqual(plan.needing(['s']), ['app', 'doc', 'lib'])
        self.assertEqual(plan.needing(['m', 's']), ['app', 'doc', 'lib'])
        self.assertEqual(plan.needing([]), [])
        self.assertEqual(plan.needing(['nothing']), [])

    def test_a_named_target_needs_to_be_reached(self):
        plan = recipes(('gen', ('g',), (), 'x'), ('lib', ('l',), ('gen',), 'x'), ('app', (), ('lib',), 'x'))
        self.assertEqual(plan.needing(['gen']), ['app', 'lib'])
        self.assertEqual(plan.needing(['lib', 'app']), ['app'])
        self.assertEqual(plan.needing(['app']), [])
        self.assertEqual(plan.needing(['lib', 'g']), ['app', 'gen', 'lib'])
        self.assertEqual(plan.needing(['gen', 'lib']), ['app', 'lib'])


class BuilderTest(unittest.TestCase):
    def setUp(self):
        self.calls = []
        self.plan = recipes(('gen', ('g',), (), 'copy'), ('lib', ('l', 's'), ('gen',), 'join'),
                            ('app', ('m',), ('lib', 'gen'), 'link'), ('doc', ('s',), (), 'copy'))
        self.files = {'g': ('g1', 'g2'), 'l': ('l',), 's': (), 'm': ('m',)}
        self.builder = Builder(self.plan)

    def make(self, recipe, texts):
        self.calls.append((recipe, texts))
        return recipe + '(' + ','.join(texts) + ')'

    def build(self, *names):
        self.calls = []
        return self.builder.build(self.files, names, self.make)

    def test_files_stand_ahead_of_targets_and_lines_are_joined(self):
        self.assertEqual(self.builder.made, {})
        gen = 'copy(g1\ng2)'
        lib = f'join(l,,{gen})'
        self.assertEqual(self.build('app', 'gen'), {'app': f'link(m,{lib},{gen})', 'gen': gen})
        self.assertEqual(self.calls, [('copy', ('g1\ng2',)), ('join', ('l', '', gen)), ('link', ('m', lib, gen))])
        self.assertEqual(self.builder.made, {'gen': 1, 'lib': 1, 'app': 1})

    def test_nothing_is_made_twice_of_the_same(self):
        first = self.build('app', 'doc')
        self.assertEqual(self.build('app', 'doc'), first)
        self.assertEqual(self.calls, [])
        self.files['m'] = ('other',)
        self.build('app')
        self.assertEqual([recipe for recipe, _ in self.calls], ['link'])
        self.assertEqual(self.builder.made, {'gen': 1, 'lib': 1, 'app': 2, 'doc': 1})

    def test_a_file_that_goes_back_to_an_older_text(self):
        first = self.build('app')
        self.files['g'] = ('new',)
        self.assertNotEqual(self.build('app'), first)
        self.assertEqual(len(self.calls), 3)
        self.files['g'] = ('g1', 'g2')
        self.assertEqual(self.build('app'), first)
        self.assertEqual(self.calls, [])
        self.assertEqual(self.builder.made, {'gen': 2, 'lib': 2, 'app': 2})

    def test_what_comes_out_alike_is_not_gone_on_with(self):
        def make(recipe, texts):
            self.calls.append(recipe)
            return recipe
        self.builder.build(self.files, ['app'], make)
        self.files['g'] = ('new',)
        self.calls = []
        self.builder.build(self.files, ['app'], make)
        self.assertEqual(self.calls, ['copy'])

    def test_targets_that_differ_by_their_names_alone(self):
        plan = recipes(('a', ('s',), (), 'copy'), ('b', ('t',), (), 'copy'), ('c', (), ('a', 'b'), 'join'))
        self.builder = Builder(plan)
        self.files = {'s': ('x', 'y'), 't': ('x', 'y')}
        self.assertEqual(self.build('b', 'a'), {'b': 'copy(x\ny)', 'a': 'copy(x\ny)'})
        self.assertEqual(self.calls, [('copy', ('x\ny',))])
        self.assertEqual(self.builder.made, {'b': 1})
        self.assertEqual(self.build('c'), {'c': 'join(copy(x\ny),copy(x\ny))'})
        self.assertEqual(self.builder.made, {'b': 1, 'c': 1})

    def test_a_file_and_a_target_of_one_text_are_told_alike(self):
        plan = recipes(('a', ('s',), (), 'id'), ('b', ('s',), (), 'join'), ('c', (), ('a',), 'join'))
        builder = Builder(plan)
        builder.build({'s': ('x',)}, ['b', 'c'], lambda recipe, texts: texts[0] if recipe == 'id' else 'joined')
        self.assertEqual(builder.made, {'b': 1, 'a': 1})

    def test_recipes_order_of_texts_and_ends_of_texts_count(self):
        plan = recipes(('a', ('s', 't'), (), 'r'), ('b', ('t', 's'), (), 'r'), ('c', ('s', 't'), (), 'q'),
                       ('d', ('u',), (), 'r'))
        self.builder = Builder(plan)
        self.files = {'s': ('x',), 't': ('y',), 'u': ('x', 'y')}
        self.build('a', 'b', 'c', 'd')
        self.assertEqual(len(self.calls), 4)

    def test_unknown_names_and_files_that_are_not_there_change_nothing(self):
        self.build('gen')
        del self.files['s']
        for names in (['nothing'], ['gen', 'nothing'], ['app'], ['doc'], ['gen', 'lib']):
            self.assertRaises(BuildError, self.build, *names)
            self.assertEqual((self.calls, self.builder.made), ([], {'gen': 1}))
        self.assertEqual(self.build('gen'), {'gen': 'copy(g1\ng2)'})
        self.assertEqual(self.calls, [])

    def test_a_thing_that_cannot_be_made_changes_nothing(self):
        def make(recipe, texts):
            if recipe == 'join':
                raise HostError('no')
            return 'made'
        self.assertRaises(HostError, self.builder.build, self.files, ['app'], make)
        self.assertEqual(self.builder.made, {})
        self.build('gen')
        self.assertEqual(len(self.calls), 1)

    def test_many_builds_are_what_making_everything_anew_gives(self):
        drawn = random.Random(7)
        for _ in range(30):
            names = [f't{n}' for n in range(drawn.randrange(1, 9))]
            paths = ['a', 'b', 'c']
            plan = recipes(*[(name, drawn.sample(paths, drawn.randrange(3)),
                              drawn.sample(names[:at], min(at, drawn.randrange(3))), drawn.choice('rq'))
                             for at, name in enumerate(names)])
            builder, known = Builder(plan), set()
            for _ in range(15):
                files = {path: tuple(drawn.choice('xy') for _ in range(drawn.randrange(3))) for path in paths}
                asked = drawn.sample(names, drawn.randrange(1, len(names) + 1))
                self.calls = []
                told = builder.build(files, asked, self.make)
                made = list(self.calls)
                self.calls = []
                self.assertEqual(told, Builder(plan).build(files, asked, self.make))
                self.assertEqual(made, [call for call in self.calls if call not in known])
                known.update(made)
            self.assertEqual(sum(builder.made.values()), len(known))


if __name__ == '__main__':
    unittest.main()
