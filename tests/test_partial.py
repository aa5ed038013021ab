"""Point 26: windows, through which a part of the files is looked at and changed."""

import unittest

from landstack.errors import ContentError, HostError
from landstack.partial import Window

FILES = {'top': ('1',), 'a/on-way': ('2',), 'a/b/in': ('3',), 'a/b/c/deep': ('4',), 'a/x/out': ('5',),
         'd/out': ('6',), 'a/bb/out': ('7',), 'e/f/g/out': ('8',)}
SEEN = {'top': ('1',), 'a/on-way': ('2',), 'a/b/in': ('3',), 'a/b/c/deep': ('4',)}


class WindowTest(unittest.TestCase):
    def test_what_is_seen(self):
        window = Window(('a/b',))
        for path in FILES:
            with self.subTest(path):
                self.assertEqual(window.sees(path), path in SEEN)
        self.assertEqual(window.look(FILES), SEEN)

    def test_a_window_without_folders_sees_the_top(self):
        window = Window(())
        self.assertTrue(window.sees('top'))
        self.assertFalse(window.sees('a/b'))
        self.assertEqual(window.look(FILES), {'top': ('1',)})

    def test_a_file_that_has_the_name_of_a_folder(self):
        window = Window(('a/b',))
        self.assertTrue(window.sees('a'))
        self.assertTrue(window.sees('a/b'))
        self.assertFalse(window.sees('d/b'))

    def test_names_that_only_begin_alike(self):
        window = Window(('a/b',))
        self.assertFalse(window.sees('a/bc/d'))
        self.assertFalse(window.sees('aa/b'))
        self.assertFalse(window.sees('x/a/b/c'))

    def test_several_folders(self):
        window = Window(('a/b', 'd', 'e/f/g'))
        seen = [path for path in sorted(FILES) if window.sees(path)]
        self.assertEqual(seen, ['a/b/c/deep', 'a/b/in', 'a/on-way', 'd/out', 'e/f/g/out', 'top'])
        self.assertTrue(window.sees('e/f/beside'))
        self.assertTrue(window.sees('e/beside'))
        self.assertFalse(window.sees('e/h/beside'))

    def test_a_folder_within_another_one(self):
        window = Window(('a/b/c', 'a'))
        self.assertTrue(window.sees('a/x/y'))
        self.assertTrue(window.sees('a/b/x/y'))

    def test_folders_that_are_no_paths(self):
        for folder in ('', '/', 'a/', '/a', 'a//b', '..', 'a/.', 'a b', '/'.join('abcdefghi'), 'a' * 31):
            with self.subTest(folder):
                self.assertRaises(ContentError, Window, ('d', folder))
                self.assertRaises(ContentError, Window(('d',)).wider, (folder,))

    def test_paths_that_are_none(self):
        window = Window(('a',))
        for path in ('', 'a/', '../a', 'a/b c', '/'.join('abcdefghi')):
            with self.subTest(path):
                self.assertRaises(ContentError, window.sees, path)
                self.assertRaises(ContentError, window.look, {path: ()})
                self.assertRaises(ContentError, window.with_changes, FILES, {path: ()})
                self.assertRaises(ContentError, window.with_changes, {path: ()}, {})
                self.assertRaises(ContentError, window.deeds_between, {path: ()}, {})
                self.assertRaises(ContentError, window.deeds_between, {}, {path: ()})

    def test_changes_leave_the_rest_as_it_was(self):
        before = dict(FILES)
        changed = Window(('a/b',)).with_changes(FILES, {'top': ('new',), 'a/b/c/fresh': ('9',)})
        self.assertEqual(changed, {'top': ('new',), 'a/b/c/fresh': ('9',), 'a/x/out': ('5',), 'd/out': ('6',),
                                   'a/bb/out': ('7',), 'e/f/g/out': ('8',)})
        self.assertEqual(FILES, before)

    def test_what_was_looked_at_put_back_changes_nothing(self):
        window = Window(('a/b', 'e'))
        self.assertEqual(window.with_changes(FILES, window.look(FILES)), FILES)

    def test_what_is_not_seen_cannot_be_put(self):
        window = Window(('a/b',))
        for path in ('d/out', 'a/x/fresh', 'a/bb/out'):
            with self.subTest(path):
                self.assertRaises(HostError, window.with_changes, FILES, {'top': (), path: ('1',)})

    def test_a_wider_window(self):
        window, other = Window(('a/b',)), Window(('e/f', 'd'))
        wide = window.wider(('e/f', 'd'))
        for path in list(FILES) + ['e/x', 'e/x/y', 'd/x/y', 'a/b']:
            with self.subTest(path):
                self.assertEqual(wide.sees(path), window.sees(path) or other.sees(path))
        self.assertFalse(window.sees('d/out'))

    def test_deeds(self):
        window = Window(('a',))
        before = {'a/gone': ('1',), 'a/kept': ('2',), 'a/other': ('3',), 'b/gone': ('4',), 'a.top': ('5',)}
        after = {'a/fresh': ('1',), 'a/kept': ('2',), 'a/other': ('4',), 'b/fresh': ('4',), 'z': ()}
        self.assertEqual(window.deeds_between(before, after),
                         (('take', 'a.top'), ('put', 'a/fresh'), ('take', 'a/gone'), ('put', 'a/other'), ('put', 'z')))
        self.assertEqual(window.deeds_between(before, before), ())
        self.assertEqual(window.deeds_between({}, {}), ())

    def test_deeds_lead_from_one_table_to_the_other(self):
        window = Window(('a/b', 'd'))
        after = {'top': ('x',), 'a/b/in': ('3',), 'a/x/out': ('y',), 'd/e/f': ('z',), 'a.b': ()}
        files = window.look(FILES)
        for word, path in window.deeds_between(FILES, after):
            if word == 'put':
                files[path] = after[path]
            else:
                self.assertEqual(word, 'take')
                del files[path]
        self.assertEqual(files, window.look(after))
