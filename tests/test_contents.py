"""Points 1, 2 and 14: contents by number, trees, names and paths."""

import unittest

from landstack.contents import NAME_SIGNS, Contents, check_name, parts_of_path
from landstack.errors import ContentError


class NamesTest(unittest.TestCase):
    def test_signs_of_names(self):
        self.assertEqual(sorted(NAME_SIGNS), sorted('abcdefghijklmnopqrstuvwxyz'
                                                    'ABCDEFGHIJKLMNOPQRSTUVWXYZ0123456789._-'))
        check_name(NAME_SIGNS[:30])
        check_name(NAME_SIGNS[30:60])
        check_name(NAME_SIGNS[60:])

    def test_names_that_are_taken(self):
        for name in ('a', 'Z', '0', '_', '-', '...', '.a', 'a.', '..a', 'a' * 30):
            with self.subTest(name):
                self.assertIsNone(check_name(name))
                self.assertEqual(parts_of_path(name), (name,))

    def test_names_that_are_refused(self):
        for name in ('', '.', '..', 'a' * 31, 'a b', 'a/b', 'a\n', '\u00e9', '\u0660', 'a*', '\\', ' '):
            with self.subTest(name):
                self.assertRaises(ContentError, check_name, name)

    def test_parts_of_paths(self):
        self.assertEqual(parts_of_path('a/b.c/d'), ('a', 'b.c', 'd'))
        self.assertEqual(parts_of_path('/'.join('abcdefgh')), tuple('abcdefgh'))
        self.assertEqual(parts_of_path('a' * 30 + '/b'), ('a' * 30, 'b'))

    def test_paths_that_are_refused(self):
        for path in ('', '/', '/a', 'a/', 'a//b', 'a/.', '../a', 'a/b c', 'a/' + 'b' * 31, '/'.join('abcdefghi')):
            with self.subTest(path):
                self.assertRaises(ContentError, parts_of_path, path)


class TextsTest(unittest.TestCase):
    def setUp(self):
        self.contents = Contents()

    def test_a_new_one_is_empty(self):
        self.assertEqual(self.contents.rows, [])

    def test_numbers_in_the_order_of_keeping(self):
        self.assertEqual(self.contents.put_text(('a',)), 0)
        self.assertEqual(self.contents.put_text(('b',)), 1)
        self.assertEqual(self.contents.put_text(('a', 'b')), 2)
        self.assertEqual(self.contents.put_text(()), 3)
        self.assertEqual(self.contents.put_text(('',)), 4)
        self.assertEqual(self.contents.rows, [('text', ('a',)), ('text', ('b',)), ('text', ('a', 'b')),
                                              ('text', ()), ('text', ('',))])

    def test_equal_contents_are_one(self):
        self.assertEqual(self.contents.put_text(('a',)), 0)
        self.assertEqual(self.contents.put(('text', ('b',))), 1)
        self.assertEqual(self.contents.put(('text', ('a',))), 0)
        self.assertEqual(self.contents.put_text(('b',)), 1)
        self.assertEqual(self.contents.put(('tree', (('n', 0),))), 2)
        self.assertEqual(self.contents.put_files({'n': ('a',)}), 2)
        self.assertEqual(len(self.contents.rows), 3)

    def test_an_empty_text_is_no_empty_tree(self):
        self.assertEqual(self.contents.put_text(()), 0)
        self.assertEqual(self.contents.put_files({}), 1)

    def test_what_is_kept_is_told(self):
        number = self.contents.put_text(('a', 'b'))
        self.assertEqual(self.contents.content_of(number), ('text', ('a', 'b')))
        self.assertEqual(self.contents.text_lines(number), ('a', 'b'))

    def test_the_longest_text(self):
        lines = tuple(str(place) for place in range(500))
        self.assertEqual(self.contents.text_lines(self.contents.put_text(lines)), lines)
        self.assertRaises(ContentError, self.contents.put_text, lines + ('more',))
        self.assertEqual(len(self.contents.rows), 1)

    def test_line_ends_within_lines(self):
        for lines in (('a\n',), ('a\nb',), ('\n',), ('a', 'b', 'c\n')):
            with self.subTest(lines):
                self.assertRaises(ContentError, self.contents.put_text, lines)
        self.assertEqual(self.contents.rows, [])

    def test_unknown_numbers(self):
        self.contents.put_text(('a',))
        for number in (-1, 1, 7):
            for ask in (self.contents.content_of, self.contents.text_lines, self.contents.files,
                        self.contents.paths, self.contents.reachable):
                with self.subTest(number=number, ask=ask.__name__):
                    self.assertRaises(ContentError, ask, number)

    def test_a_tree_is_no_text_and_a_text_no_tree(self):
        text = self.contents.put_text(('a',))
        tree = self.contents.put_files({'n': ('a',)})
        self.assertRaises(ContentError, self.contents.text_lines, tree)
        self.assertRaises(ContentError, self.contents.files, text)
        self.assertRaises(ContentError, self.contents.paths, text)
        self.assertRaises(ContentError, self.contents.changed_paths, text, tree)
        self.assertRaises(ContentError, self.contents.changed_paths, tree, text)
        self.assertRaises(ContentError, self.contents.changed_paths, tree, 7)


class TreesTest(unittest.TestCase):
    def setUp(self):
        self.contents = Contents()

    def test_an_empty_table(self):
        tree = self.contents.put_files({})
        self.assertEqual(self.contents.content_of(tree), ('tree', ()))
        self.assertEqual(self.contents.files(tree), {})
        self.assertEqual(self.contents.paths(tree), ())

    def test_a_tree_within_a_tree(self):
        tree = self.contents.put_files({'b/y': ('1',), 'a': ('2',), 'b/x/z': ('3',)})
        kind, rows = self.contents.content_of(tree)
        self.assertEqual((kind, [name for name, _ in rows]), ('tree', ['a', 'b']))
        self.assertEqual(self.contents.text_lines(rows[0][1]), ('2',))
        inner = self.contents.content_of(rows[1][1])
        self.assertEqual((inner[0], [name for name, _ in inner[1]]), ('tree', ['x', 'y']))
        self.assertEqual(self.contents.files(rows[1][1]), {'y': ('1',), 'x/z': ('3',)})

    def test_what_is_within_a_tree_is_kept_before_it(self):
        self.contents.put_files({'a/b/c/d': ('1',), 'a/b/z': ('2',), 'a/y': ('3',), 'x': ('4',), 'z/z': ('1',)})
        for number, (kind, inner) in enumerate(self.contents.rows):
            if kind == 'tree':
                self.assertTrue(all(other < number for _, other in inner))
        self.assertEqual(self.contents.rows[-1][1][0][0], 'a')
        self.assertEqual(len(self.contents.rows), 4 + 5)

    def test_names_stand_in_ascending_order(self):
        tree = self.contents.put_files({'b': (), 'a-b': (), 'a/c': (), 'B': (), 'a.b': (), '_': ()})
        self.assertEqual([name for name, _ in self.contents.content_of(tree)[1]],
                         ['B', '_', 'a', 'a-b', 'a.b', 'b'])

    def test_the_order_of_a_table_does_not_matter(self):
        one = self.contents.put_files({'a': ('1',), 'd/b': ('2',), 'd/c': ('3',)})
        many = len(self.contents.rows)
        self.assertEqual(self.contents.put_files({'d/c': ('3',), 'a': ('1',), 'd/b': ('2',)}), one)
        self.assertEqual(len(self.contents.rows), many)

    def test_equal_folders_are_one(self):
        tree = self.contents.put_files({'a/x': ('1',), 'b/x': ('1',), 'c/x': ('2',)})
        rows = dict(self.contents.content_of(tree)[1])
        self.assertEqual(rows['a'], rows['b'])
        self.assertNotEqual(rows['a'], rows['c'])
        self.assertEqual(self.contents.put_files({'x': ('1',)}), rows['a'])
        self.assertEqual(self.contents.files(tree), {'a/x': ('1',), 'b/x': ('1',), 'c/x': ('2',)})

    def test_files_read_back(self):
        files = {'a': (), 'b/c': ('1', ''), 'b/d/e': ('1',), '/'.join('abcdefgh').replace('a', 'z'): ('deep',)}
        self.assertEqual(self.contents.files(self.contents.put_files(files)), files)

    def test_paths_stand_in_ascending_order_of_paths(self):
        tree = self.contents.put_files({'a/b': ('1',), 'a-b': ('2',), 'a.c': ('3',), 'a0': ('1',), 'B': ('5',)})
        rows = self.contents.paths(tree)
        self.assertEqual([path for path, _ in rows], ['B', 'a-b', 'a.c', 'a/b', 'a0'])
        self.assertEqual({path: self.contents.text_lines(number) for path, number in rows},
                         {'a/b': ('1',), 'a-b': ('2',), 'a.c': ('3',), 'a0': ('1',), 'B': ('5',)})
        self.assertEqual(dict(rows)['a/b'], dict(rows)['a0'])

    def test_a_file_within_another_one(self):
        for files in ({'a': ('1',), 'a/b': ('2',)}, {'a/b/c/d': ('1',), 'a/b': ('2',)},
                      {'x': (), 'a/b/c': ('1',), 'a': ('2',)}):
            with self.subTest(files):
                self.assertRaises(ContentError, self.contents.put_files, files)
        self.assertEqual(self.contents.rows, [])

    def test_names_that_only_begin_alike_stand_beside_each_other(self):
        files = {'a': ('1',), 'ab/c': ('2',), 'a-/c': ('3',), 'ab/cd/e': ('4',)}
        self.assertEqual(self.contents.files(self.contents.put_files(files)), files)

    def test_all_is_looked_at_before_anything_is_kept(self):
        many = ('x',) * 501
        for bad in ({'a': ('1',), 'z/..': ('2',)}, {'a': ('1',), 'z': many}, {'a': ('1',), 'z': ('x\ny',)},
                    {'a': ('1',), '/'.join('bcdefghij'): ('2',)}, {'a': ('1',), '': ()},
                    {'a/b': ('1',), 'z': (), 'z/b': ()}):
            with self.subTest(list(bad)):
                self.assertRaises(ContentError, self.contents.put_files, bad)
                self.assertEqual(self.contents.rows, [])
        self.assertEqual(self.contents.put_text(('later',)), 0)

    def test_changed_paths(self):
        one = self.contents.put_files({'a': ('1',), 'b/c': ('2',), 'b/d': ('3',), 'b-': ('4',), 'e': ('5',)})
        other = self.contents.put_files({'a': ('1',), 'b/c': ('3',), 'b/d': ('3',), 'b-': ('5',), 'e/f': ('5',)})
        self.assertEqual(self.contents.changed_paths(one, other), ('b-', 'b/c', 'e', 'e/f'))
        self.assertEqual(self.contents.changed_paths(other, one), ('b-', 'b/c', 'e', 'e/f'))
        self.assertEqual(self.contents.changed_paths(one, one), ())
        empty = self.contents.put_files({})
        self.assertEqual(self.contents.changed_paths(empty, one), ('a', 'b-', 'b/c', 'b/d', 'e'))

    def test_changed_paths_of_equal_folders(self):
        one = self.contents.put_files({'a/x': ('1',)})
        other = self.contents.put_files({'b/x': ('1',)})
        self.assertEqual(self.contents.changed_paths(one, other), ('a/x', 'b/x'))

    def test_reachable(self):
        apart = self.contents.put_text(('apart',))
        tree = self.contents.put_files({'a/x': ('1',), 'b/x': ('1',), 'c': ('2',)})
        rows = dict(self.contents.content_of(tree)[1])
        text = self.contents.put_text(('1',))
        self.assertEqual(self.contents.reachable(tree), tuple(sorted((tree, rows['a'], rows['c'], text))))
        self.assertEqual(self.contents.reachable(rows['b']), tuple(sorted((rows['a'], text))))
        self.assertEqual(self.contents.reachable(apart), (apart,))
        self.assertEqual(self.contents.reachable(self.contents.put_files({})), (len(self.contents.rows) - 1,))
