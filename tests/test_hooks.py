"""Point 21: hooks, to which events are told, at least once, in order, and not for ever."""

import unittest

from landstack.errors import HookError
from landstack.hooks import Hook, Teller


class HookCase(unittest.TestCase):
    def setUp(self):
        self.teller = Teller()
        self.sent = []
        self.bad = set()

    def send(self, name, event):
        self.sent.append((name, event))
        return name not in self.bad and event[2] not in self.bad

    def tick(self, many=1):
        """Let ticks pass, and return what was sent."""
        self.sent = []
        for _ in range(many):
            self.teller.tick(self.send)
        return self.sent

    def told(self, name):
        hook = self.teller.hook(name)
        return hook.tries, hook.due_at, hook.state, hook.missed, [event[0] for event in hook.held]


class TellerTest(HookCase):
    def test_a_hook(self):
        hook = Hook('a', ['push'])
        self.assertEqual((hook.held, hook.tries, hook.due_at, hook.state, hook.missed), ([], 0, 0, 'on', 0))

    def test_what_cannot_be_added(self):
        self.teller.add('a', ['push'])
        for name, words in [('a', ['push']), ('a', ['land']), ('b', []), ('b', ()), ('', ['push'])]:
            self.assertRaises(HookError, self.teller.add, name, words)
        self.assertRaises(HookError, self.teller.hook, 'b')
        self.assertRaises(HookError, self.teller.hook, '')
        self.assertRaises(HookError, self.teller.switch, 'b', True)
        self.assertRaises(HookError, self.teller.switch, 'b', False)
        self.teller.happen('push', 'x')
        self.assertEqual(self.teller.hook('a').held, [(1, 'push', 'x')])

    def test_numbers_of_events(self):
        self.teller.add('a', ['push'])
        self.assertEqual([self.teller.happen('land', 'x'), self.teller.happen('push', 'y'), self.teller.happen('', ''),
                          self.teller.happen('push', 'y')], [1, 2, 3, 4])
        self.assertEqual(self.teller.hook('a').held, [(2, 'push', 'y'), (4, 'push', 'y')])

    def test_in_order_of_names_and_of_events(self):
        for name, words in [('b', ['push', 'land']), ('c', ['land']), ('a', ('push',)), ('B', ['push'])]:
            self.teller.add(name, words)
        self.teller.happen('push', 'x')
        self.teller.happen('land', 'y')
        one, two = (1, 'push', 'x'), (2, 'land', 'y')
        self.assertEqual(self.tick(), [('B', one), ('a', one), ('b', one), ('b', two), ('c', two)])
        self.assertEqual(self.teller.time, 1)
        self.assertEqual(self.tick(3), [])
        self.assertEqual(self.teller.time, 4)

    def test_an_event_that_is_not_taken_holds_the_next_ones(self):
        self.teller.add('a', ['push'])
        for text in 'xyz':
            self.teller.happen('push', text)
        self.bad = {'y'}
        self.assertEqual([event[2] for _, event in self.tick()], ['x', 'y'])
        self.assertEqual(self.told('a'), (1, 2, 'on', 0, [2, 3]))
        self.bad = set()
        self.assertEqual([event[2] for _, event in self.tick()], ['y', 'z'])
        self.assertEqual(self.told('a')[0], 0)
        self.assertEqual(self.told('a')[2:], ('on', 0, []))

    def test_when_it_is_due_again(self):
        self.teller.add('a', ['push'])
        self.teller.happen('push', 'x')
        self.bad = {'a'}
        times = [time for time in range(1, 80) if self.tick()]
        self.assertEqual(times, [1, 2, 4, 8, 16, 32])
        self.assertEqual(self.told('a')[2], 'broken')

    def test_tries_and_due_at_behind_each_failure(self):
        self.teller.add('a', ['push'])
        self.teller.happen('push', 'x')
        self.bad = {'a'}
        told = []
        for _ in range(33):
            if self.tick():
                told.append(self.told('a')[:3])
        self.assertEqual(told, [(1, 2, 'on'), (2, 4, 'on'), (3, 8, 'on'), (4, 16, 'on'), (5, 32, 'on'), (5, 32, 'broken')])
        self.assertEqual(self.told('a')[4], [1])

    def test_what_is_taken_makes_tries_none(self):
        self.teller.add('a', ['push'])
        self.teller.happen('push', 'x')
        self.teller.happen('push', 'y')
        self.bad = {'a'}
        self.tick(16)
        self.assertEqual(self.told('a')[:2], (5, 32))
        self.bad = {'y'}
        self.assertEqual(len(self.tick(15)), 0)
        self.assertEqual([event[2] for _, event in self.tick()], ['x', 'y'])
        self.assertEqual(self.told('a'), (1, 33, 'on', 0, [2]))
        self.bad = set()
        self.tick()
        self.assertEqual(self.told('a')[0], 0)

    def test_each_hook_has_its_own_tries(self):
        for name in 'ab':
            self.teller.add(name, ['push'])
        self.teller.happen('push', 'x')
        self.bad = {'a'}
        self.assertEqual([name for name, _ in self.tick()], ['a', 'b'])
        self.teller.happen('push', 'y')
        self.assertEqual([(name, event[0]) for name, event in self.tick()], [('a', 1), ('b', 2)])
        self.assertEqual(self.told('b'), (0, 0, 'on', 0, []))

    def test_a_hundred_held_ones_and_what_is_missed(self):
        self.teller.add('a', ['push'])
        self.teller.add('b', ['push', 'land'])
        for _ in range(100):
            self.teller.happen('push', 'x')
        self.assertEqual(self.teller.hook('a').missed, 0)
        self.assertEqual(self.teller.happen('push', 'x'), 101)
        self.assertEqual(self.teller.happen('land', 'x'), 102)
        self.assertEqual((len(self.teller.hook('a').held), self.teller.hook('a').missed), (100, 1))
        self.assertEqual((len(self.teller.hook('b').held), self.teller.hook('b').missed), (100, 2))
        self.assertEqual(self.teller.hook('a').held[-1], (100, 'push', 'x'))
        self.assertEqual(len(self.tick()), 200)
        self.teller.happen('push', 'x')
        self.assertEqual((self.told('a')[3:]), (1, [103]))

    def test_what_is_told_within_a_tick_may_happen_within_it(self):
        self.teller.add('a', ['push', 'told'])

        def send(name, event):
            self.sent.append(event[1])
            if event[1] == 'push':
                self.teller.happen('told', name)
            return True
        self.teller.happen('push', 'x')
        self.teller.tick(send)
        self.assertEqual(self.sent, ['push', 'told'])


    def test_what_takes_an_event_may_switch_the_hook_off(self):
        self.teller.add('a', ['push'])

        def send(name, event):
            self.sent.append(event)
            self.teller.switch(name, False)
            return True
        self.teller.happen('push', 'x')
        self.teller.happen('push', 'y')
        self.teller.tick(send)
        self.assertEqual(self.sent, [(1, 'push', 'x')])
        self.assertEqual(self.told('a'), (0, 1, 'off', 0, []))


class SwitchTest(HookCase):
    def setUp(self):
        HookCase.setUp(self)
        self.teller.add('a', ['push'])

    def test_off(self):
        self.teller.happen('push', 'x')
        self.bad = {'a'}
        self.tick(3)
        self.teller.switch('a', False)
        self.assertEqual(self.told('a'), (0, 3, 'off', 0, []))
        self.assertEqual(self.teller.happen('push', 'y'), 2)
        self.assertEqual(self.tick(10), [])
        self.assertEqual(self.told('a'), (0, 3, 'off', 0, []))

    def test_on_again(self):
        self.teller.switch('a', False)
        self.teller.happen('push', 'x')
        self.tick(5)
        self.teller.switch('a', True)
        self.assertEqual(self.told('a'), (0, 5, 'on', 0, []))
        self.teller.happen('push', 'y')
        self.assertEqual(self.tick(), [('a', (2, 'push', 'y'))])

    def test_on_while_it_is_on_begins_anew(self):
        self.teller.happen('push', 'x')
        self.bad = {'a'}
        self.tick(9)
        self.assertEqual(self.told('a')[:2], (4, 16))
        self.teller.switch('a', True)
        self.assertEqual(self.told('a'), (0, 9, 'on', 0, [1]))
        self.assertEqual(len(self.tick()), 1)
        self.assertEqual(self.told('a')[:2], (1, 11))

    def test_a_broken_one(self):
        self.teller.happen('push', 'x')
        self.bad = {'a'}
        self.tick(40)
        self.assertEqual(self.told('a'), (5, 32, 'broken', 0, [1]))
        # It is not on: what happens meanwhile is not held, and not missed either.
        self.assertEqual(self.teller.happen('push', 'y'), 2)
        self.assertEqual(self.tick(10), [])
        self.assertEqual(self.told('a'), (5, 32, 'broken', 0, [1]))
        self.teller.switch('a', True)
        self.assertEqual(self.told('a'), (0, 50, 'on', 0, [1]))
        times = [self.teller.time for _ in range(60) if self.tick()]
        self.assertEqual(times, [51, 52, 54, 58, 66, 82])

    def test_a_broken_one_is_switched_off(self):
        self.teller.happen('push', 'x')
        self.bad = {'a'}
        self.tick(40)
        self.teller.switch('a', False)
        self.assertEqual(self.told('a'), (0, 40, 'off', 0, []))

    def test_what_was_missed_stays_told(self):
        for _ in range(103):
            self.teller.happen('push', 'x')
        self.teller.switch('a', False)
        self.teller.happen('push', 'x')
        self.teller.switch('a', True)
        self.assertEqual(self.told('a'), (0, 0, 'on', 3, []))


if __name__ == '__main__':
    unittest.main()
