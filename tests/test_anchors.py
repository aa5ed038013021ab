"""Points 14 and 23: anchors and talks behind a change."""

import unittest

from landstack.anchors import STATES_OF_ANCHORS, Anchor, Discussion, make_anchor, moved_anchor
from landstack.errors import ReviewError

BEFORE = {'p': tuple('abcdef')}


def moved(text, first=2, last=3, path='p', moves=()):
    """How an anchor at lines of the first text stands behind a change of it."""
    return moved_anchor(make_anchor(BEFORE, 'p', first, last), BEFORE, {path: tuple(text)}, moves).shown()


class AnchorTest(unittest.TestCase):
    def test_states(self):
        self.assertEqual(STATES_OF_ANCHORS, ('same', 'moved', 'changed', 'gone'))

    def test_fields(self):
        anchor = Anchor('p', 1, 2, ('b', 'c'))
        self.assertEqual(anchor.shown(), ('p', 1, 2, ('b', 'c'), 'same'))
        self.assertEqual((anchor.path, anchor.first, anchor.last, anchor.lines, anchor.state), anchor.shown())

    def test_an_anchor_at_lines(self):
        self.assertEqual(make_anchor(BEFORE, 'p', 1, 2).shown(), ('p', 1, 2, ('b', 'c'), 'same'))
        self.assertEqual(make_anchor(BEFORE, 'p', 0, 5).lines, tuple('abcdef'))
        self.assertEqual(make_anchor(BEFORE, 'p', 5, 5).lines, ('f',))

    def test_lines_that_are_not_there(self):
        for path, first, last in (('q', 0, 0), ('p', -1, 0), ('p', 2, 1), ('p', 0, 6), ('p', 6, 6), ('p', -2, -1),
                                  ('e', 0, 0), ('', 0, 0)):
            with self.subTest(path=path, first=first, last=last):
                self.assertRaises(ReviewError, make_anchor, {**BEFORE, 'e': ()}, path, first, last)


class MovedAnchorTest(unittest.TestCase):
    def test_same(self):
        self.assertEqual(moved('abcdef'), ('p', 2, 3, ('c', 'd'), 'same'))
        self.assertEqual(moved('xycdz'), ('p', 2, 3, ('c', 'd'), 'same'))

    def test_moved(self):
        self.assertEqual(moved('xabcdef'), ('p', 3, 4, ('c', 'd'), 'moved'))
        self.assertEqual(moved('cd'), ('p', 0, 1, ('c', 'd'), 'moved'))

    def test_changed(self):
        self.assertEqual(moved('abcxdef'), ('p', 2, 4, ('c', 'x', 'd'), 'changed'))
        self.assertEqual(moved('abcef'), ('p', 2, 2, ('c',), 'changed'))
        self.assertEqual(moved('abdef'), ('p', 2, 2, ('d',), 'changed'))
        self.assertEqual(moved('abxdef'), ('p', 3, 3, ('d',), 'changed'))
        self.assertEqual(moved('abcxef', 2, 4), ('p', 2, 4, ('c', 'x', 'e'), 'changed'))
        self.assertEqual(moved('axybcdef', 0, 1), ('p', 0, 3, ('a', 'x', 'y', 'b'), 'changed'))

    def test_gone(self):
        self.assertEqual(moved('abef'), ('p', 2, 3, ('c', 'd'), 'gone'))
        self.assertEqual(moved(''), ('p', 2, 3, ('c', 'd'), 'gone'))
        self.assertEqual(moved('abxyef'), ('p', 2, 3, ('c', 'd'), 'gone'))

    def test_a_path_that_is_gone(self):
        self.assertEqual(moved('abcdef', path='q'), ('p', 2, 3, ('c', 'd'), 'gone'))
        self.assertEqual(moved('abcdef', path='q', moves=(('o', 'q'),)), ('p', 2, 3, ('c', 'd'), 'gone'))
        self.assertEqual(moved('abcdef', path='q', moves=(('p', 'r'),)), ('p', 2, 3, ('c', 'd'), 'gone'))

    def test_another_name(self):
        moves = (('o', 'n'), ('p', 'q'))
        self.assertEqual(moved('abcdef', path='q', moves=moves), ('q', 2, 3, ('c', 'd'), 'moved'))
        self.assertEqual(moved('xabcdef', path='q', moves=moves), ('q', 3, 4, ('c', 'd'), 'moved'))
        self.assertEqual(moved('abcx', path='q', moves=moves), ('q', 2, 2, ('c',), 'changed'))
        self.assertEqual(moved('abx', path='q', moves=moves)[4], 'gone')

    def test_what_is_gone_stays_gone(self):
        anchor = moved_anchor(make_anchor(BEFORE, 'p', 2, 3), BEFORE, {})
        for before, after in (({}, BEFORE), (BEFORE, BEFORE), ({}, {})):
            self.assertEqual(moved_anchor(anchor, before, after).shown(), ('p', 2, 3, ('c', 'd'), 'gone'))
            self.assertEqual(moved_anchor(anchor, before, after, (('p', 'q'),)).shown()[0], 'p')

    def test_a_path_that_was_not_there(self):
        anchor = make_anchor(BEFORE, 'p', 2, 3)
        self.assertRaises(ReviewError, moved_anchor, anchor, {}, BEFORE)
        self.assertRaises(ReviewError, moved_anchor, anchor, {'q': ()}, {}, (('p', 'q'),))

    def test_the_anchor_itself_stays_as_it_was(self):
        anchor = make_anchor(BEFORE, 'p', 2, 3)
        moved_anchor(anchor, BEFORE, {'p': tuple('xc')})
        moved_anchor(anchor, BEFORE, {})
        self.assertEqual(anchor.shown(), ('p', 2, 3, ('c', 'd'), 'same'))

    def test_one_change_after_another(self):
        after = {'p': tuple('xabcdef')}
        anchor = moved_anchor(make_anchor(BEFORE, 'p', 2, 3), BEFORE, after)
        self.assertEqual(moved_anchor(anchor, after, after).shown(), ('p', 3, 4, ('c', 'd'), 'same'))
        self.assertEqual(moved_anchor(anchor, after, BEFORE).shown(), ('p', 2, 3, ('c', 'd'), 'moved'))

    def test_shared_lines_are_found_in_the_whole_text(self):
        before = {'p': ('a', 'x', 'b', 'x')}
        anchor = make_anchor(before, 'p', 3, 3)
        self.assertEqual(moved_anchor(anchor, before, {'p': ('a', 'x', 'b')}).state, 'gone')
        self.assertEqual(moved_anchor(anchor, before, {'p': ('b', 'x')}).shown(), ('p', 1, 1, ('x',), 'moved'))


class DiscussionTest(unittest.TestCase):
    def setUp(self):
        self.talk = Discussion()

    def begin(self, first, last=None, path='p'):
        return self.talk.begin(make_anchor({**BEFORE, 'q': tuple('abcdef')}, path, first, last or first), 'ann', 'why')

    def test_a_new_one(self):
        self.assertEqual((self.talk.anchors, self.talk.said, self.talk.settled), ({}, {}, {}))
        self.assertEqual(self.talk.open_at('p'), ())
        self.assertEqual(self.talk.move({}, {}), ())

    def test_talks(self):
        self.assertEqual(self.begin(1), 0)
        self.assertEqual(self.begin(2), 1)
        self.assertIsNone(self.talk.answer(0, 'bob', 'so'))
        self.assertEqual(self.talk.said, {0: [('ann', 'why'), ('bob', 'so')], 1: [('ann', 'why')]})
        self.assertEqual(self.talk.anchors[1].shown(), ('p', 2, 2, ('c',), 'same'))

    def test_settled_and_opened_again(self):
        self.begin(1)
        self.assertFalse(self.talk.settled[0])
        self.assertIsNone(self.talk.settle(0))
        self.assertTrue(self.talk.settled[0])
        self.assertEqual(self.talk.open_at('p'), ())
        self.talk.answer(0, 'bob', 'but')
        self.assertFalse(self.talk.settled[0])
        self.assertEqual(self.talk.open_at('p'), (0,))

    def test_what_is_refused(self):
        self.assertRaises(ReviewError, self.talk.begin, make_anchor(BEFORE, 'p', 1, 1), 'ann', '')
        self.assertEqual(self.talk.anchors, {})
        self.begin(1)
        self.talk.settle(0)
        self.assertRaises(ReviewError, self.talk.answer, 0, 'bob', '')
        for number in (-1, 1):
            self.assertRaises(ReviewError, self.talk.answer, number, 'bob', 'so')
            self.assertRaises(ReviewError, self.talk.settle, number)
        self.assertEqual((self.talk.said, self.talk.settled[0]), ({0: [('ann', 'why')]}, True))

    def test_talks_move(self):
        self.begin(1)
        self.begin(4, 5)
        self.begin(0, path='q')
        after = {'p': tuple('xabc'), 'r': tuple('xabc')}
        self.assertEqual(self.talk.move({**BEFORE, 'q': tuple('abcdef')}, after, (('q', 'r'),)), (1,))
        self.assertEqual([self.talk.anchors[number].shown()[:3] for number in range(3)],
                         [('p', 2, 2), ('p', 4, 5), ('r', 1, 1)])
        self.assertEqual([self.talk.anchors[number].state for number in range(3)], ['moved', 'gone', 'moved'])
        self.assertEqual([bool(self.talk.settled[number]) for number in range(3)], [False, True, False])

    def test_lines_that_are_gone_are_told_once(self):
        self.begin(1)
        self.begin(2)
        after = {'p': tuple('abde')}
        self.assertEqual(self.talk.move(BEFORE, after), (1,))
        self.assertEqual(self.talk.move(after, {}), (0,))
        self.assertEqual(self.talk.move({}, BEFORE), ())
        self.assertEqual([self.talk.anchors[number].state for number in range(2)], ['gone', 'gone'])

    def test_lines_of_a_settled_talk_that_are_gone_are_told(self):
        self.begin(1)
        self.talk.settle(0)
        self.assertEqual(self.talk.move(BEFORE, {}), (0,))

    def test_answers_open_talks_whose_lines_are_gone(self):
        self.begin(1)
        self.talk.move(BEFORE, {})
        self.assertEqual(self.talk.open_at('p'), ())
        self.talk.answer(0, 'bob', 'still')
        self.assertEqual(self.talk.open_at('p'), (0,))
        self.assertEqual(self.talk.move({}, {}), ())
        self.assertEqual(self.talk.open_at('p'), (0,))

    def test_a_move_that_raises_changes_nothing(self):
        self.begin(1)
        self.begin(1, path='q')
        shown = [self.talk.anchors[number].shown() for number in range(2)]
        self.assertRaises(ReviewError, self.talk.move, BEFORE, {})
        self.assertEqual([self.talk.anchors[number].shown() for number in range(2)], shown)
        self.assertEqual(self.talk.open_at('p'), (0,))

    def test_the_order_of_open_talks(self):
        for first in (4, 1, 3, 1):
            self.begin(first)
        self.begin(0, path='q')
        self.assertEqual(self.talk.open_at('p'), (1, 3, 2, 0))
        self.assertEqual(self.talk.open_at('q'), (4,))
        self.assertEqual(self.talk.open_at('r'), ())
        self.talk.settle(3)
        self.assertEqual(self.talk.open_at('p'), (1, 2, 0))
        after = {'p': tuple('abcdef'), 'q': ()}
        self.talk.move({**BEFORE, 'q': tuple('abcdef')}, after)
        self.assertEqual(self.talk.open_at('p'), (1, 2, 0))
        self.assertEqual(self.talk.open_at('q'), ())
