"""Point 25: classes of messages, the next version, notes, and which changes another line lacks."""

import unittest

from landstack.contents import Contents
from landstack.errors import GraphError, VersionError
from landstack.graph import Commit, Graph
from landstack.releases import CLASSES, change_mark, class_of, lacking_changes, next_version, notes


class VersionTest(unittest.TestCase):
    def test_classes_of_messages(self):
        self.assertEqual(CLASSES, ('break', 'add', 'fix'))
        for message, told in [('break: the old way', ('break', 'the old way')), ('add: a', ('add', 'a')),
                              ('fix: b: c', ('fix', 'b: c')), ('fix:  x', ('fix', ' x')), ('fix: fix: x', ('fix', 'fix: x'))]:
            self.assertEqual(class_of(message), told)

    def test_messages_of_no_class(self):
        for message in ('', 'fix', 'fix:', 'fix: ', 'fix:x', 'Fix: x', ' fix: x', 'docs: x', ': x', 'a fix: x', 'fixes: x',
                        'fix : x', 'not: fix: x'):
            self.assertEqual(class_of(message), ('', message))

    def test_from_one_on(self):
        for messages, told in [(['fix: a'], (1, 2, 4)), (['add: a'], (1, 3, 0)), (['break: a'], (2, 0, 0)),
                               (['fix: a', 'add: b', 'fix: c'], (1, 3, 0)), (['add: a', 'x', 'break: b'], (2, 0, 0)),
                               (['fix: a', 'fix: b'], (1, 2, 4))]:
            self.assertEqual(next_version((1, 2, 3), messages), told)

    def test_below_one(self):
        for messages, told in [(['fix: a'], (0, 2, 4)), (['add: a'], (0, 2, 4)), (['break: a'], (0, 3, 0)),
                               (['fix: a', 'break: b', 'add: c'], (0, 3, 0)), (('add: a', 'fix: b'), (0, 2, 4))]:
            self.assertEqual(next_version((0, 2, 3), messages), told)

    def test_without_any_such_message(self):
        for version in ((1, 2, 3), (0, 0, 0), (9999, 9999, 9999)):
            for messages in ([], ['more'], ['fix:', 'add', 'docs: x', 'fix: ']):
                self.assertEqual(next_version(version, messages), version)

    def test_no_number_is_left(self):
        for version, message in [((9999, 0, 0), 'break: a'), ((1, 9999, 0), 'add: a'), ((1, 0, 9999), 'fix: a'),
                                 ((0, 9999, 0), 'break: a'), ((0, 0, 9999), 'add: a'), ((0, 0, 9999), 'fix: a')]:
            self.assertRaises(VersionError, next_version, version, [message])
        self.assertEqual(next_version((1, 9999, 9999), ['break: a']), (2, 0, 0))
        self.assertEqual(next_version((1, 9998, 9999), ['add: a']), (1, 9999, 0))
        self.assertEqual(next_version((9998, 1, 1), ['break: a']), (9999, 0, 0))

    def test_notes(self):
        rows = [(4, 'fix: b'), (7, 'break: x'), (2, 'none'), (3, 'fix: a: b'), (9, 'add: c'), (1, 'fix: ')]
        self.assertEqual(notes((1, 2, 3), rows), ('version 1.2.3', 'break:', '- x (7)', 'add:', '- c (9)', 'fix:',
                                                  '- b (4)', '- a: b (3)'))
        self.assertEqual(notes((0, 1, 0), [(0, 'add: c'), (0, 'add: c')]),
                         ('version 0.1.0', 'add:', '- c (0)', '- c (0)'))
        self.assertEqual(notes((0, 1, 0), [(0, 'docs')]), ('version 0.1.0',))
        self.assertEqual(notes((0, 1, 0), ()), ('version 0.1.0',))


class MarkCase(unittest.TestCase):
    def setUp(self):
        self.graph = Graph(Contents())
        self.time = 0

    def commit(self, files, *parents, message='m'):
        tree = self.graph.contents.put_files({path: tuple(lines) for path, lines in files.items()})
        # No two commits are equal, so that each has a number of its own.
        self.time += 1
        return self.graph.add(Commit(tree, parents, 'ann', self.time, message))

    def mark(self, before, after):
        """The mark of a commit that leads from some files to others."""
        return change_mark(self.graph, self.commit(after, self.commit(before)))


class MarkTest(MarkCase):
    def test_the_same_lines_around_other_lines_and_in_other_commits(self):
        mark = self.mark({'p': 'abc', 'q': '1'}, {'p': 'axc', 'q': '1'})
        for before, after in [('abc', 'axc'), ('b', 'x'), ('zzbz', 'zzxz'), ('bcdefg', 'xcdefg')]:
            self.assertEqual(self.mark({'p': before}, {'p': after}), mark)
        # Lines that stay between those that go and come do not count.
        self.assertEqual(self.mark({'p': 'bk'}, {'p': 'kx'}), mark)

    def test_other_lines_order_and_paths(self):
        rows = [('p', 'abc', 'axc'), ('p', 'abc', 'ac'), ('p', 'ac', 'axc'), ('q', 'abc', 'axc'), ('p', 'ab', 'xab'),
                ('p', 'ak', 'xky'), ('p', 'ak', 'ykx'), ('p', 'kb', 'xk'), ('p', 'abc', 'axyc'), ('p', 'abc', 'ayxc')]
        marks = [self.mark({path: before}, {path: after}) for path, before, after in rows]
        self.assertEqual(marks[2], marks[4])
        del marks[4]
        self.assertEqual(len(set(marks)), len(marks))

    def test_new_gone_and_changed_paths(self):
        marks = [self.mark({'o': '1'}, {'o': '1', 'p': 'ab'}), self.mark({'o': '1', 'p': ''}, {'o': '1', 'p': 'ab'}),
                 self.mark({'o': '1', 'p': 'ab'}, {'o': '1'}), self.mark({'o': '1', 'p': 'ab'}, {'o': '1', 'p': ''}),
                 self.mark({'o': '1'}, {'o': '1', 'p': ''}), self.mark({'o': '1', 'p': ''}, {'o': '1'}),
                 self.mark({'o': '1'}, {'o': '1', 'p': 'ba'})]
        self.assertEqual(len(set(marks)), len(marks))
        self.assertEqual(self.mark({'x': '2'}, {'x': '2', 'p': 'ab'}), marks[0])
        self.assertEqual(self.mark({}, {'p': 'ab'}), marks[0])
        self.assertEqual(change_mark(self.graph, self.commit({'p': 'ab'})), marks[0])

    def test_lines_do_not_run_into_each_other(self):
        rows = [{'p': ('a', 'b')}, {'p': ('ab',)}, {'p': ('a',), 'q': ('b',)}, {'p': ('a', '+ b')}, {'p': ('a', 'new q')},
                {'p': ('a',), 'q': ()}, {'p': ('a\\n+ b',)}, {'p': ('',)}, {'p': ()}, {'p': ('', '')}]
        self.assertEqual(len({self.mark({}, files) for files in rows}), len(rows))

    def test_what_changes_nothing_and_merges(self):
        first = self.commit({'p': 'abc'})
        side = self.commit({'p': 'abc', 'q': '1'}, first)
        main = self.commit({'p': 'xbc'}, first)
        merge = self.commit({'p': 'xbc', 'q': '1'}, main, side)
        same = self.commit({'p': 'xbc', 'q': '1'}, merge)
        self.assertEqual(change_mark(self.graph, merge), change_mark(self.graph, side))
        self.assertNotEqual(change_mark(self.graph, merge), change_mark(self.graph, main))
        self.assertEqual(change_mark(self.graph, same), self.mark({'z': '1'}, {'z': '1'}))
        self.assertNotEqual(change_mark(self.graph, same), change_mark(self.graph, merge))

    def test_unknown_commits(self):
        number = self.commit({'p': 'a'})
        for one in (-1, number + 1):
            self.assertRaises(GraphError, change_mark, self.graph, one)
            self.assertRaises(GraphError, lacking_changes, self.graph, number, one)
            self.assertRaises(GraphError, lacking_changes, self.graph, one, number)


class LackingTest(MarkCase):
    def setUp(self):
        MarkCase.setUp(self)
        self.first = self.commit({'p': 'abc'})

    def test_the_oldest_first_and_not_what_is_common(self):
        one = self.commit({'p': 'abc', 'q': '1'}, self.first)
        two = self.commit({'p': 'abc', 'q': '12'}, one)
        other = self.commit({'p': 'xabc'}, self.first)
        self.assertEqual(lacking_changes(self.graph, two, other), (one, two))
        self.assertEqual(lacking_changes(self.graph, other, two), (other,))
        self.assertEqual(lacking_changes(self.graph, two, self.first), (one, two))
        self.assertEqual(lacking_changes(self.graph, self.first, two), ())
        self.assertEqual(lacking_changes(self.graph, two, two), ())

    def test_what_is_there_by_another_commit(self):
        one = self.commit({'p': 'abc', 'q': '1'}, self.first)
        two = self.commit({'p': 'abc', 'q': '12'}, one)
        three = self.commit({'p': 'abcz', 'q': '12'}, two)
        end = self.commit({'p': 'yabc'}, self.first)
        end = self.commit({'p': 'yabcz'}, end)
        picked = self.commit({'p': 'yabcz', 'q': '1'}, end)
        self.assertEqual(lacking_changes(self.graph, three, picked), (two,))
        self.assertEqual(len(lacking_changes(self.graph, picked, three)), 1)

    def test_what_changes_nothing_is_left_out(self):
        same = self.commit({'p': 'abc'}, self.first)
        again = self.commit({'p': 'abc'}, same)
        end = self.commit({'p': 'abcd'}, again)
        self.assertEqual(lacking_changes(self.graph, end, self.first), (end,))
        self.assertEqual(lacking_changes(self.graph, again, self.first), ())

    def test_merges_stand_for_what_they_bring_to_the_line(self):
        side = self.commit({'p': 'abc', 'q': '1'}, self.first)
        later = self.commit({'p': 'abc', 'q': '12'}, side)
        main = self.commit({'p': 'xabc'}, self.first)
        merge = self.commit({'p': 'xabc', 'q': '12'}, main, later)
        self.assertEqual(lacking_changes(self.graph, merge, self.first), (main, merge))
        picked = self.commit({'p': 'abc', 'q': '12'}, self.first)
        self.assertEqual(lacking_changes(self.graph, merge, picked), (main,))
        # The line of first parents alone counts.
        self.assertEqual(lacking_changes(self.graph, later, merge), (side, later))

    def test_lines_that_have_nothing_in_common(self):
        other = self.commit({'z': '1'})
        end = self.commit({'z': '1', 'p': 'abc'}, other)
        self.assertEqual(lacking_changes(self.graph, end, self.first), (other,))
        self.assertEqual(lacking_changes(self.graph, self.first, end), ())


if __name__ == '__main__':
    unittest.main()
