"""Point 7: jobs, plans, runs and the scheduler with its workers."""

import unittest

from landstack.checks import Job, Plan, Run, Scheduler
from landstack.errors import CheckError


class PlanTest(unittest.TestCase):
    def test_jobs(self):
        self.assertEqual(Job('a').tries, 1)
        self.assertEqual(Job('a', ('b',), 2, 3).tries, 3)
        self.assertEqual(Job(name='a', needs=[], length=1, tries=2).tries, 2)

    def names(self, **needs):
        return Plan([Job(name, tuple(rest)) for name, rest in needs.items()]).names()

    def test_the_least_name_of_those_that_may(self):
        self.assertEqual(Plan([]).names(), ())
        self.assertEqual(self.names(c='', a='', b=''), ('a', 'b', 'c'))
        self.assertEqual(self.names(a='b', b='', c=''), ('b', 'a', 'c'))
        self.assertEqual(self.names(a='z', b='', z='c', c=''), ('b', 'c', 'z', 'a'))
        self.assertEqual(self.names(d='ab', a='c', b='c', c=''), ('c', 'a', 'b', 'd'))
        self.assertEqual(self.names(a='bb', b=''), ('b', 'a'))

    def test_plans_that_are_none(self):
        for jobs in [[Job('a'), Job('a', length=2)], [Job('a', length=0)], [Job('a', tries=0)], [Job('a', length=-1)],
                     [Job('b'), Job('a', tries=-3)], [Job('a', ('b',))], [Job('a'), Job('b', ('a', 'c'))],
                     [Job('a', ('a',))], [Job('a', ('b',)), Job('b', ('a',))],
                     [Job('x'), Job('a', ('b',)), Job('b', ('c',)), Job('c', ('a', 'x'))]]:
            with self.subTest([job.name for job in jobs]):
                self.assertRaises(CheckError, Plan, jobs)


class RunTest(unittest.TestCase):
    def setUp(self):
        # "d" needs "c", which needs "a" and "b"; "e" needs "b" alone.
        self.run_of = Run(Plan([Job('a'), Job('b', (), 2, 2), Job('c', ('a', 'b')), Job('d', ('c',)),
                                Job('e', ('b',))]), 5)

    def states(self):
        return ' '.join(f'{name}:{state}' for name, state in self.run_of.states.items())

    def test_a_new_run(self):
        run = self.run_of
        self.assertEqual(run.tree, 5)
        self.assertEqual(self.states(), 'a:waiting b:waiting c:waiting d:waiting e:waiting')
        self.assertEqual(run.tried, {'a': 0, 'b': 0, 'c': 0, 'd': 0, 'e': 0})
        self.assertEqual((run.ready(), run.running(), run.outcome()), (['a', 'b'], [], None))

    def test_jobs_begin_only_behind_what_they_need(self):
        run = self.run_of
        run.begin('b')
        self.assertEqual((run.ready(), run.running(), run.tried['b']), (['a'], ['b'], 1))
        run.begin('a')
        self.assertEqual((run.ready(), run.running()), ([], ['a', 'b']))
        run.finish('b', True)
        self.assertEqual((run.ready(), run.running()), (['e'], ['a']))
        run.finish('a', True)
        self.assertEqual(run.ready(), ['c', 'e'])
        self.assertEqual(self.states(), 'a:passed b:passed c:waiting d:waiting e:waiting')
        for name in 'ce':
            run.begin(name)
            run.finish(name, True)
        self.assertIsNone(run.outcome())
        run.begin('d')
        self.assertIsNone(run.outcome())
        run.finish('d', True)
        self.assertEqual(run.outcome(), 'passed')

    def test_a_failed_job_begins_anew_while_it_has_tries_left(self):
        run = self.run_of
        run.begin('b')
        run.finish('b', False)
        self.assertEqual((run.states['b'], run.tried['b'], run.ready()), ('waiting', 1, ['a', 'b']))
        run.begin('b')
        self.assertEqual(run.tried['b'], 2)
        run.finish('b', True)
        self.assertEqual((run.states['b'], run.ready()), ('passed', ['a', 'e']))

    def test_what_needs_a_failed_one_is_skipped(self):
        run = self.run_of
        for _ in range(2):
            run.begin('b')
            run.finish('b', False)
        self.assertEqual(self.states(), 'a:waiting b:failed c:skipped d:skipped e:skipped')
        self.assertIsNone(run.outcome())
        self.assertEqual(run.ready(), ['a'])
        run.begin('a')
        self.assertIsNone(run.outcome())
        run.finish('a', True)
        self.assertEqual(run.outcome(), 'failed')

    def test_what_runs_or_passed_is_not_skipped(self):
        run = self.run_of
        for name in 'ab':
            run.begin(name)
        run.finish('b', True)
        run.begin('e')
        run.finish('a', False)
        self.assertEqual(self.states(), 'a:failed b:passed c:skipped d:skipped e:running')
        run.finish('e', True)
        self.assertEqual(run.outcome(), 'failed')

    def test_jobs_that_may_not_begin(self):
        run = self.run_of
        run.begin('a')
        for name in ('a', 'c', 'd', 'x', ''):
            self.assertRaises(CheckError, run.begin, name)
        run.finish('a', False)
        for name in ('a', 'c'):
            self.assertRaises(CheckError, run.begin, name)
        self.assertEqual(run.tried, {'a': 1, 'b': 0, 'c': 0, 'd': 0, 'e': 0})

    def test_jobs_that_do_not_run_and_are_to_end(self):
        run = self.run_of
        for name in ('a', 'c', 'x'):
            self.assertRaises(CheckError, run.finish, name, True)
        run.begin('a')
        run.finish('a', True)
        self.assertRaises(CheckError, run.finish, 'a', False)
        self.assertEqual(run.states['a'], 'passed')

    def test_an_empty_plan(self):
        self.assertEqual(Run(Plan([]), 0).outcome(), 'passed')


class SchedulerTest(unittest.TestCase):
    def make(self, jobs, workers, bad=()):
        """A scheduler whose judge notes what it is asked, and finds bad what is told."""
        self.judged = []

        def judge(name, tree, tried):
            self.judged.append((name, tree, tried))
            return (name, tree, tried) not in bad
        self.scheduler = Scheduler(Plan(jobs), workers, judge)
        return self.scheduler

    def running(self):
        return {tree: ''.join(run.running()) for tree, run in self.scheduler.runs.items()}

    def test_too_few_workers(self):
        for workers in (0, -1):
            self.assertRaises(CheckError, Scheduler, Plan([]), workers, None)

    def test_one_worker(self):
        scheduler = self.make([Job('b'), Job('a', (), 2), Job('c', ('b',))], 1)
        scheduler.ask(7)
        self.assertEqual((scheduler.asked(), scheduler.busy(), self.running()), ([7], 0, {7: ''}))
        seen = []
        for _ in range(5):
            scheduler.tick()
            seen.append((self.running().get(7), len(self.judged), scheduler.busy()))
        self.assertEqual(seen, [('a', 0, 1), ('a', 0, 1), ('b', 1, 1), ('c', 2, 1), (None, 3, 0)])
        self.assertEqual(self.judged, [('a', 7, 1), ('b', 7, 1), ('c', 7, 1)])
        self.assertEqual((scheduler.outcomes, scheduler.runs, scheduler.asked()), ({7: 'passed'}, {}, []))

    def test_workers_go_to_runs_in_the_order_of_asking(self):
        scheduler = self.make([Job('a'), Job('b'), Job('c', ('a',))], 3)
        scheduler.ask(9)
        scheduler.ask(2)
        scheduler.tick()
        self.assertEqual(self.running(), {9: 'ab', 2: 'a'})
        self.assertEqual(scheduler.busy(), 3)
        scheduler.ask(1)
        scheduler.tick()
        self.assertEqual(self.running(), {9: 'c', 2: 'bc', 1: ''})
        self.assertEqual(self.judged, [('a', 9, 1), ('b', 9, 1), ('a', 2, 1)])
        scheduler.tick()
        self.assertEqual(self.running(), {1: 'ab'})
        self.assertEqual(list(scheduler.outcomes.items()), [(9, 'passed'), (2, 'passed')])

    def test_two_workers(self):
        scheduler = self.make([Job('a', (), 2), Job('b', (), 1), Job('c', (), 1)], 2)
        scheduler.ask(0)
        seen = []
        for _ in range(4):
            scheduler.tick()
            seen.append(self.running().get(0))
        self.assertEqual(seen, ['ab', 'ac', None, None])
        self.assertEqual(self.judged, [('b', 0, 1), ('a', 0, 1), ('c', 0, 1)])

    def test_a_failed_job_waits_again(self):
        scheduler = self.make([Job('a', (), 1, 3), Job('b')], 1, [('a', 4, 1), ('a', 4, 2)])
        scheduler.ask(4)
        seen = []
        for _ in range(5):
            scheduler.tick()
            seen.append(self.running().get(4))
        self.assertEqual(seen, ['a', 'a', 'a', 'b', None])
        self.assertEqual(self.judged, [('a', 4, 1), ('a', 4, 2), ('a', 4, 3), ('b', 4, 1)])
        self.assertEqual(scheduler.outcomes, {4: 'passed'})

    def test_a_try_takes_its_whole_length_again(self):
        scheduler = self.make([Job('a', (), 2, 2)], 1, [('a', 4, 1)])
        scheduler.ask(4)
        for many, judged in [(2, 0), (1, 1), (1, 1), (1, 2)]:
            for _ in range(many):
                scheduler.tick()
            self.assertEqual(len(self.judged), judged)
        self.assertEqual(scheduler.outcomes, {4: 'passed'})

    def test_a_tree_passes_only_if_all_its_jobs_do(self):
        jobs = [Job('a'), Job('b', ('a',)), Job('c'), Job('d', ('b', 'c'), 5)]
        scheduler = self.make(jobs, 3, [('b', 1, 1), ('a', 2, 1)])
        for tree in (1, 2, 3):
            scheduler.ask(tree)
        for _ in range(20):
            scheduler.tick()
        self.assertEqual(scheduler.outcomes, {1: 'failed', 2: 'failed', 3: 'passed'})
        self.assertEqual([row[0] for row in self.judged if row[1] == 1], ['a', 'c', 'b'])
        self.assertEqual([row[0] for row in self.judged if row[1] == 2], ['a', 'c'])

    def test_what_came_of_a_tree_is_not_asked_again(self):
        for bad in ([], [('a', 1, 1)]):
            scheduler = self.make([Job('a')], 1, bad)
            scheduler.ask(1)
            scheduler.tick()
            scheduler.ask(1)
            self.assertEqual((scheduler.asked(), self.running()), ([1], {1: 'a'}))
            scheduler.tick()
            scheduler.ask(1)
            scheduler.tick()
            self.assertEqual((scheduler.asked(), self.judged), ([], [('a', 1, 1)]))
            self.assertEqual(scheduler.outcomes, {1: 'failed' if bad else 'passed'})

    def test_a_cancelled_tree(self):
        scheduler = self.make([Job('a', (), 2)], 1)
        scheduler.ask(1)
        scheduler.ask(2)
        scheduler.tick()
        scheduler.cancel(1)
        self.assertEqual((scheduler.asked(), scheduler.busy(), scheduler.outcomes), ([2], 0, {}))
        scheduler.cancel(1)
        scheduler.cancel(8)
        scheduler.tick()
        self.assertEqual(self.running(), {2: 'a'})
        scheduler.ask(1)
        self.assertEqual(scheduler.asked(), [2, 1])
        for _ in range(4):
            scheduler.tick()
        self.assertEqual((self.judged, scheduler.outcomes), ([('a', 2, 1), ('a', 1, 1)], {2: 'passed', 1: 'passed'}))
        scheduler.cancel(1)
        self.assertEqual(scheduler.outcomes, {2: 'passed', 1: 'passed'})

    def test_settling_notes_only_what_is_over(self):
        scheduler = self.make([Job('a')], 1)
        scheduler.ask(1)
        scheduler.settle(1)
        scheduler.settle(5)
        self.assertEqual((scheduler.asked(), scheduler.outcomes), ([1], {}))
        scheduler.runs[1].begin('a')
        scheduler.settle(1)
        self.assertEqual(scheduler.asked(), [1])
        scheduler.runs[1].finish('a', False)
        scheduler.settle(1)
        self.assertEqual((scheduler.asked(), scheduler.outcomes), ([], {1: 'failed'}))

    def test_no_jobs(self):
        scheduler = self.make([], 1)
        scheduler.ask(3)
        self.assertEqual(scheduler.outcomes, {})
        scheduler.tick()
        self.assertEqual(scheduler.outcomes, {3: 'passed'})


if __name__ == '__main__':
    unittest.main()
