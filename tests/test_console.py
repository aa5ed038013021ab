"""Points 10 and 12: lines that people say to a host, and its answers."""

import copy
import unittest

from landstack.console import Console, whole
from landstack.errors import GraphError, RightError

ERROR = ('error',)


class ConsoleCase(unittest.TestCase):
    def setUp(self):
        self.console = Console('root')
        self.host = self.console.host
        self.say('root', 'new', 'write a one / two', 'write d/e x', 'commit begin', 'branch main 0', 'branch free 0',
                 'allow ann write', 'allow bob write', 'allow cy read')

    def say(self, name, *lines):
        """Say lines none of which is an error, and return the last answer."""
        for line in lines:
            answer = self.console.enter(name, line)
            self.assertIsInstance(answer, tuple)
            self.assertNotEqual(answer, ERROR, line)
        return answer

    def shown(self):
        host = self.host
        branches = {name: (branch.end(), branch.queue and (branch.queue.depth, branch.rules.needed, branch.rules.owners, [
            entry.change.number for entry in branch.queue.entries], branch.queue.events))
            for name, branch in host.branches.items()}
        changes = [(change.head, change.state, change.votes) for change in host.changes]
        return copy.deepcopy((branches, changes, host.rights, host.time, len(host.graph.commits), self.console.works))

    def refused(self, name, *lines):
        """Say lines each of which is an error, and changes nothing."""
        before = self.shown()
        for line in lines:
            self.assertEqual(self.console.enter(name, line), ERROR, line)
            self.assertEqual(self.shown(), before, line)

    def guarded(self, *words):
        self.say('root', ' '.join(['guard', 'main', *(words or ('0',))]))

    def change(self, *lines, name='ann', message='more'):
        """A change of somebody against main, who says some lines about it."""
        number = self.say(name, 'begin main', *lines, f'commit {message}')[0]
        return self.say(name, f'propose main {number}')[0]


class NumberTest(unittest.TestCase):
    def test_whole(self):
        for text, number in [('0', 0), ('7', 7), ('007', 7), ('999999', 999999), ('000000', 0)]:
            self.assertEqual(whole(text), number)
        for text in ('', '1000000', '0000000', '-1', '+1', '1.0', ' 1', '1 ', 'x', '1x', '\u0663', '\u00b2', '1_0'):
            self.assertRaises(GraphError, whole, text)


class WorkTest(ConsoleCase):
    def test_a_new_console(self):
        self.assertEqual(Console('me').host.rights, {'me': 'admin'})
        self.assertRaises(RightError, Console, 'No Name')
        self.assertRaises(RightError, Console, '')

    def test_each_answer(self):
        told = [('begin main', ('0',)), ('write a one / three', ('write',)), ('erase d/e', ('erase',)),
                ('commit it is so', ('1',)), ('branch next 1', ('made',)), ('push free 1', ('pushed',)),
                ('show 1', ('a: one / three',)), ('log 1', ('1 ann 0 it is so', '0 root 0 begin')), ('new', ('new',)),
                ('write b x', ('write',)), ('commit alone', ('2',)), ('merge 1 2', ('3',)),
                ('show 3', ('a: one / three', 'b: x')), ('reverse 2 3', ('4',)), ('show 4', ('a: one / three',)),
                ('log 4', ('4 ann 0 not: alone', '3 ann 0 (merge) merge 1 2', '2 ann 0 alone', '1 ann 0 it is so',
                           '0 root 0 begin')),
                ('diff 0 1 a', ('+1 -1', '= 1', '- two', '+ three')), ('merge 0 1', ('1',))]
        for line, answer in told:
            self.assertEqual(self.console.enter('ann', line), answer, line)
        self.assertEqual(self.host.branches['next'].end(), 1)
        self.assertEqual(self.host.branches['free'].end(), 1)
        self.assertEqual(self.host.graph.commit(3).shown()[1:], ((1, 2), 'ann', 0, 'merge 1 2'))

    def test_no_line(self):
        self.refused('root', '', ' ', 'nothing', 'Begin main', ' begin main', 'begin', 'begin  main', 'begin main ',
                     'begin\tmain', 'enter new', 'error', 'settle 0 0')

    def test_too_few_and_too_many_words(self):
        self.guarded()
        self.say('root', 'begin main')
        self.change('write a x')
        few = ['begin', 'write', 'erase', 'commit', 'branch', 'branch b', 'push', 'push free', 'merge', 'merge 0', 'reverse',
               'reverse 1', 'log', 'show', 'diff', 'diff 0', 'diff 0 1', 'propose', 'propose main', 'vote', 'vote 0',
               'lacking', 'land', 'move', 'move 0', 'drop', 'allow', 'allow bob', 'guard', 'guard free', 'go', 'queue']
        many = ['begin main x', 'new x', 'erase a x', 'branch b 0 x', 'push free 1 x', 'merge 0 1 x', 'reverse 1 1 x', 'log 0 x',
                'show 0 x', 'diff 0 1 a x', 'propose main 1 x', 'vote 0 + x', 'lacking 0 x', 'land 0 x', 'move 0 1 x', 'drop 0 x',
                'allow bob read x', 'guard free 0 x', 'go 1 x', 'queue main x', 'new ', 'show 0 ', 'go 1 ']
        self.refused('root', *few, *many)
        self.refused('ann', 'move 0', 'move 0 0 x', 'move 0 0 ')

    def test_texts(self):
        self.say('ann', 'begin main')
        told = [('write f x', ('x',)), ('write f x / y', ('x', 'y')), ('write f', ()), ('write f ', ()),
                ('write f x y  z', ('x y  z',)), ('write f x/y', ('x/y',)), ('write f x / / y', ('x', '/ y')),
                ('write f  / x', ('', 'x')), ('write f x / ', ('x', '')), ('write f  / ', ('', '')), ('write f   ', ('  ',)),
                ('write f /', ('/',))]
        for line, lines in told:
            self.assertEqual(self.console.enter('ann', line), ('write',))
            number = self.say('ann', f'commit {lines}')[0]
            self.assertEqual(self.host.graph.files(int(number))['f'], lines, line)

    def test_paths(self):
        self.say('ann', 'begin main')
        self.refused('ann', 'write a//b x', 'write /a x', 'write a/ x', 'write ../a x', 'write a/./b x', 'write  x', 'write a? x',
                     'write ' + 'x' * 31 + ' y', 'write ' + '/'.join('abcdefghi') + ' x', 'erase a//b', 'erase nothing',
                     'erase d', 'erase ')
        self.say('ann', 'write ' + '/'.join('abcdefgh') + ' x', 'erase ' + '/'.join('abcdefgh'))
        self.refused('ann', 'erase ' + '/'.join('abcdefgh'))

    def test_a_commit_that_cannot_be(self):
        self.say('ann', 'begin main', 'write a/b x')
        self.refused('ann', 'commit x', 'commit', 'commit ')
        self.say('ann', 'erase a/b', 'write b' + ' / x' * 501)
        self.refused('ann', 'commit x')
        self.say('ann', 'erase b')
        self.refused('ann', 'commit ' + 'x' * 201, 'commit x\ny')
        self.assertEqual(self.say('ann', 'commit ' + 'x' * 200), ('1',))
        self.assertEqual(self.say('ann', 'commit two  words '), ('2',))
        self.assertEqual(self.host.graph.commit(2).message, 'two  words ')

    def test_work_is_each_persons_own_and_goes_on(self):
        self.refused('ann', 'write a x', 'erase a', 'commit x')
        self.say('ann', 'begin main', 'write a ann')
        self.refused('bob', 'write a x', 'erase a', 'commit x')
        self.say('bob', 'begin main', 'write a bob')
        self.assertEqual(self.say('ann', 'commit one'), ('1',))
        self.assertEqual(self.say('bob', 'commit two'), ('2',))
        self.assertEqual(self.say('ann', 'write b x', 'commit three'), ('3',))
        self.assertEqual([self.host.graph.commit(number).parents for number in (1, 2, 3)], [(0,), (0,), (1,)])
        self.assertEqual(self.say('ann', 'show 3'), ('a: ann', 'b: x', 'd/e: x'))
        self.assertEqual(self.say('ann', 'new', 'write z 1', 'commit four'), ('4',))
        self.assertEqual((self.host.graph.commit(4).parents, self.say('ann', 'show 4')), ((), ('z: 1',)))
        self.assertEqual(self.say('ann', 'begin free', 'commit five'), ('5',))
        self.assertEqual(self.host.graph.commit(5).parents, (0,))

    def test_what_is_not_there(self):
        self.refused('root', 'begin nothing', 'branch b 1', 'branch main 0', 'push nothing 0', 'push free 1', 'merge 0 1',
                     'merge 1 0', 'reverse 0 1', 'reverse 1 0', 'log 1', 'show 1', 'diff 0 1 a', 'diff 1 0 a', 'propose main 0',
                     'propose nothing 0', 'vote 0 +', 'lacking 0', 'land 0', 'move 0 0', 'drop 0', 'guard nothing 0',
                     'queue nothing', 'queue main')

    def test_numbers(self):
        self.guarded()
        self.change('write a x')
        for text in ('', 'x', '-1', '0000000', '1000000', '0x', '\u0660', '+0', '0.'):
            self.refused('root', f'branch b {text}', f'push free {text}', f'merge {text} 0', f'merge 0 {text}',
                         f'reverse {text} 0', f'reverse 0 {text}', f'log {text}', f'show {text}', f'diff {text} 0 a',
                         f'diff 0 {text} a', f'propose main {text}', f'vote {text} +', f'lacking {text}', f'land {text}',
                         f'drop {text}', f'guard free {text}', f'go {text}')
            self.refused('ann', f'move {text} 0', f'move 0 {text}')
        self.assertEqual(self.say('root', 'show 000000'), self.say('root', 'show 0'))
        self.assertEqual(self.say('root', 'go 000002'), ('2',))

    def test_show_log_and_diff(self):
        self.say('ann', 'begin main', 'write a two / three / four', 'write empty', 'write d-e z', 'commit more')
        self.assertEqual(self.say('cy', 'show 1'), ('a: two / three / four', 'd-e: z', 'd/e: x', 'empty: '))
        self.assertEqual(self.say('cy', 'log 1'), ('1 ann 0 more', '0 root 0 begin'))
        self.assertEqual(self.say('cy', 'diff 0 1 a'), ('+2 -1', '- one', '= 1', '+ three', '+ four'))
        self.assertEqual(self.say('cy', 'diff 1 0 a'), ('+1 -2', '+ one', '= 1', '- three', '- four'))
        self.assertEqual(self.say('cy', 'diff 0 1 d/e'), ('+0 -0', '= 1'))
        self.assertEqual(self.say('cy', 'diff 0 1 d-e'), ('+1 -0', '+ z'))
        self.assertEqual(self.say('cy', 'diff 1 0 d-e'), ('+0 -1', '- z'))
        self.assertEqual(self.say('cy', 'diff 0 1 empty'), ('+0 -0',))
        self.refused('cy', 'diff 0 1 a//b', 'diff 0 1 ', 'diff 0 1 ..')
        self.assertEqual(self.say('ann', 'new', 'commit nothing'), ('2',))
        self.assertEqual(self.say('cy', 'show 2'), ())

    def test_conflicts_of_merge_and_reverse(self):
        self.say('ann', 'begin main', 'write a ours', 'write d/e ours', 'write x 1', 'commit ours')
        self.say('bob', 'begin main', 'write a theirs', 'write d/e theirs', 'write x 1', 'commit theirs')
        self.assertEqual(self.console.enter('ann', 'merge 1 2'), ('conflict a', 'conflict d/e'))
        self.assertEqual(self.console.enter('ann', 'reverse 1 2'), ('conflict a', 'conflict d/e'))
        self.assertEqual(len(self.host.graph.commits), 3)
        self.assertEqual(self.say('ann', 'reverse 1 1'), ('3',))
        self.assertEqual(self.say('ann', 'show 3'), self.say('ann', 'show 0'))
        self.say('ann', 'merge 1 3')
        self.assertEqual(self.say('ann', 'merge 0 3'), ('3',))
        # Which parent a merge is to be taken against, nobody knows.
        self.assertEqual(self.say('bob', 'begin main', 'write y 1', 'commit side', 'merge 4 1'), ('5',))
        self.refused('ann', 'reverse 5 5')

    def test_pushing_loses_nothing(self):
        self.say('ann', 'begin main', 'write x 1', 'commit one', 'push free 1')
        self.refused('ann', 'push free 0')
        self.assertEqual(self.say('ann', 'push free 1'), ('pushed',))
        self.guarded()
        self.refused('root', 'push main 1')


class RightTest(ConsoleCase):
    def test_people_without_the_right(self):
        self.guarded()
        self.say('root', 'begin main', 'write x 1', 'commit one')
        self.say('root', 'propose main 1')
        write = ['new', 'commit x', 'branch b 0', 'push free 1', 'merge 0 1', 'reverse 1 1', 'propose main 1', 'vote 0 +',
                 'land 0', 'move 0 0', 'drop 0']
        admin = ['allow dee read', 'allow cy none', 'guard free 0']
        read = ['show 0', 'log 0', 'diff 0 1 a', 'go 1', 'queue main', 'lacking 0', 'begin main']
        self.refused('cy', *write, *admin)
        self.refused('ann', *admin)
        self.refused('eve', *write, *admin, *read)
        self.refused('', *write, *admin, *read)
        for line in read:
            self.say('cy', line)
        # Whoever may read may begin, and say what it writes, but not keep it.
        self.say('cy', 'write x 2', 'erase x')
        self.refused('cy', 'commit x')

    def test_writing_needs_only_that_something_was_begun(self):
        self.say('ann', 'begin main')
        self.say('root', 'allow ann none')
        self.say('ann', 'write x 1', 'erase x')
        self.refused('ann', 'commit x', 'begin main', 'new')

    def test_allow(self):
        self.assertEqual(self.say('root', 'allow dee admin'), ('allowed',))
        self.assertEqual(self.say('dee', 'allow root none'), ('allowed',))
        self.assertEqual(self.host.rights, {'dee': 'admin', 'ann': 'write', 'bob': 'write', 'cy': 'read'})
        self.refused('root', 'show 0')
        self.refused('dee', 'allow dee none', 'allow dee write', 'allow ann all', 'allow ann None', 'allow Ann read', 'allow  read',
                     'allow ann ', 'allow ' + 'x' * 21 + ' read')
        self.assertEqual(self.say('dee', 'allow nobody none'), ('allowed',))

    def test_only_the_author_moves_and_the_author_or_an_admin_drops(self):
        self.guarded()
        self.change('write x 1')
        self.change('write y 1')
        self.refused('bob', 'move 0 0', 'drop 0')
        self.refused('root', 'move 0 0')
        self.assertEqual(self.say('ann', 'move 0 0'), ('moved',))
        self.assertEqual(self.say('ann', 'drop 0'), ('dropped',))
        self.assertEqual(self.say('root', 'drop 1'), ('dropped',))
        self.refused('ann', 'drop 0', 'move 0 1', 'land 0')
        self.refused('bob', 'vote 0 +')


class ChangeTest(ConsoleCase):
    def test_from_a_change_to_what_landed(self):
        self.assertEqual(self.say('root', 'guard main 1 d=bob,root =ann'), ('guarded',))
        self.assertEqual(self.say('cy', 'queue main'), ())
        self.assertEqual(self.change('write a one / two / three', 'write d/f y'), '0')
        self.assertEqual(self.say('cy', 'lacking 0'), ('votes', 'owner d/f'))
        self.refused('ann', 'vote 0 +', 'land 0')
        self.assertEqual(self.say('bob', 'vote 0 +'), ('voted',))
        self.assertEqual(self.console.enter('cy', 'lacking 0'), ())
        self.assertEqual(self.say('ann', 'land 0'), ('queued',))
        self.refused('ann', 'land 0')
        self.assertEqual(self.say('cy', 'go 3'), ('3',))
        self.assertEqual(self.say('cy', 'queue main'), ())
        self.assertEqual(self.say('cy', 'go 1'), ('4',))
        self.assertEqual(self.say('cy', 'queue main'), ('4 landed 0',))
        self.assertEqual(self.say('cy', 'begin main'), ('1',))
        self.assertEqual(self.host.changes[0].state, 'landed')

    def test_votes(self):
        self.guarded('1')
        self.change('write x 1')
        self.refused('bob', 'vote 0 1', 'vote 0 ++', 'vote 0 -1', 'vote 0 ', 'vote 1 +', 'vote 0 yes')
        told = [('bob', '+', ()), ('bob', '-', ('votes', 'against')), ('bob', '0', ('votes',)), ('root', '+', ()),
                ('bob', '-', ('against',))]
        for name, sign, lacking in told:
            self.assertEqual(self.say(name, f'vote 0 {sign}'), ('voted',))
            self.assertEqual(self.console.enter('cy', 'lacking 0'), lacking)

    def test_guard(self):
        self.refused('root', 'guard main 10', 'guard main x', 'guard main -1', 'guard main 1 d', 'guard main 1 a//b=ann',
                     'guard main 1 d=Ann', 'guard main 1 d=ann,', 'guard main 1 d=', 'guard main 1 ', 'guard main 1 d/=ann',
                     'guard main 1 d=ann x')
        self.assertEqual(self.say('root', 'guard main 9 d/e=ann,bob a=cy =root'), ('guarded',))
        rules = self.host.branches['main'].rules
        self.assertEqual((rules.needed, rules.sticky), (9, False))
        self.assertEqual([rules.owners_of(path) for path in ('d/e', 'd/e/f', 'd/ex', 'a', 'ab')],
                         [('ann', 'bob'), ('ann', 'bob'), ('root',), ('cy',), ('root',)])
        self.refused('root', 'guard main 0', 'guard main 9')
        self.say('root', 'guard free 0')
        self.assertEqual(self.host.branches['free'].rules.owners_of('a'), ())
        self.assertEqual(self.host.branches['free'].queue.depth, 3)

    def test_what_goes_out_of_the_queue(self):
        self.guarded()
        for number in range(5):
            # The second and the third change the same line.
            line = ['write x good', 'write a 1 / two', 'write a 2 / two', 'write y a bad one', 'write z 1'][number]
            self.change(line, name='ann', message=f'm{number}')
            self.say('ann', f'land {number}')
        self.say('root', 'vote 4 -', 'go 30')
        events = self.say('cy', 'queue main')
        self.assertEqual(sorted(event.split(' ', 1)[1] for event in events),
                         ['conflict 2', 'failed 3', 'lacking 4', 'landed 0', 'landed 1'])
        self.assertEqual(events[:2], ('1 lacking 4', '1 conflict 2'))
        end = self.host.branches['main'].end()
        self.assertEqual(self.say('cy', f'show {end}'), ('a: 1 / two', 'd/e: x', 'x: good'))
        self.refused('ann', 'move 0 0')

    def test_the_two_checks(self):
        jobs = self.host.scheduler.plan.jobs
        self.assertEqual(self.host.scheduler.plan.names(), ('build', 'test'))
        self.assertEqual([(job.needs, job.length, job.tries) for job in jobs.values()], [((), 2, 1), (('build',), 1, 2)])
        self.assertEqual(self.host.scheduler.workers, 2)

    def test_the_word_that_is_not_wanted(self):
        for word, line, event in [(None, 'write x this is badly so', 'failed'), (None, 'write bad good', 'landed'),
                                  (None, 'write x Bad', 'landed'), ('TODO', 'write x bad', 'landed'),
                                  ('TODO', 'write x 1 / see TODO: 2', 'failed')]:
            self.console = Console('root') if word is None else Console('root', word)
            self.host = self.console.host
            self.say('root', 'new', 'write a 1', 'commit begin', 'branch main 0', 'allow ann write', 'guard main 0')
            self.change(line)
            self.say('ann', 'land 0', 'go 4')
            # A build that fails is over behind two ticks of work, and is not tried again.
            self.assertEqual(self.say('ann', 'queue main'), ('4 landed 0' if event == 'landed' else '3 failed 0',), line)

    def test_go(self):
        self.assertEqual(self.say('cy', 'go 0'), ('0',))
        self.assertEqual(self.say('cy', 'go 12'), ('12',))
        self.assertEqual(self.say('cy', 'go 1'), ('13',))
        self.assertEqual(self.host.time, 13)
        self.say('ann', 'begin main', 'commit later')
        self.assertEqual(self.say('ann', 'log 1'), ('1 ann 13 later', '0 root 0 begin'))

    def test_a_moved_change_goes_out_at_its_turn(self):
        self.guarded()
        self.change('write x 1')
        self.say('ann', 'land 0', 'write x 2', 'commit again', 'move 0 2', 'go 1')
        self.assertEqual(self.say('cy', 'queue main'), ('1 moved 0',))
        self.say('ann', 'land 0', 'go 4')
        self.assertEqual(self.say('cy', 'queue main'), ('1 moved 0', '5 landed 0'))


if __name__ == '__main__':
    unittest.main()
