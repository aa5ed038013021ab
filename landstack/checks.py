"""Checks: jobs with others that they need, carried out by a few workers, and what came of them."""

from landstack.errors import CheckError

WAITING = 'waiting'
RUNNING = 'running'
PASSED = 'passed'
FAILED = 'failed'
SKIPPED = 'skipped'


class Job:
    """A name, the jobs that must have passed before, how long it takes, and how often it is tried."""

    def __init__(self, name, needs=(), length=1, tries=1):
        self.name = name
        self.needs = tuple(needs)
        self.length = length
        self.tries = tries


class Plan:
    """Jobs by name, in an order in which each stands after those that it needs."""

    def __init__(self, jobs):
        left = {job.name: job for job in jobs}
        if len(left) != len(jobs) or any(job.length < 1 or job.tries < 1 for job in jobs):
            raise CheckError('a job is there twice, or takes no time')
        if any(need not in left for job in jobs for need in job.needs):
            raise CheckError('a job needs one that is not there')
        self.jobs = {}
        while left:
            ready = [name for name in sorted(left) if all([need in self.jobs for need in left[name].needs])]
            if ready == []:
                raise CheckError('jobs need each other')
            self.jobs[ready[0]] = left.pop(ready[0])

    def names(self):
        """Return the names of all jobs, in order."""
        return tuple(self.jobs)


class Run:
    """A plan for a tree: the state of each job, how often it was tried, and how long it still runs."""

    def __init__(self, plan, tree):
        self.plan = plan
        self.tree = tree
        self.states = {name: WAITING for name in plan.names()}
        self.tried = {name: 0 for name in plan.names()}
        self.left = {}

    def in_state(self, state):
        """Return the jobs that are in a state, in order."""
        return [name for name in self.plan.names() if self.states[name] == state]

    def need_states(self, name):
        """Return the states of what a job needs."""
        return [self.states[need] for need in self.plan.jobs[name].needs]

    def ready(self):
        """Return the jobs that may begin, in order."""
        return [name for name in self.in_state(WAITING)
                if all([state == PASSED for state in self.need_states(name)])]

    def begin(self, name):
        """Let a job begin; raise CheckError if it may not."""
        if name not in self.ready():
            raise CheckError(f'a job may not begin: {name}')
        self.states[name] = RUNNING
        self.tried[name] += 1
        self.left[name] = self.plan.jobs[name].length

    def running(self):
        """Return the jobs that run, in order."""
        return self.in_state(RUNNING)

    def go_on(self):
        """Let all jobs that run go on, and return those whose time is over, in order."""
        over = []
        for name in self.running():
            self.left[name] -= 1
            if self.left[name] == 0:
                over.append(name)
        return over

    def finish(self, name, good):
        """Let a job end; one that failed begins anew while it has tries left; what needs a failed one is skipped."""
        if self.states.get(name) != RUNNING:
            raise CheckError(f'a job does not run: {name}')
        if good:
            self.states[name] = PASSED
        elif self.tried[name] < self.plan.jobs[name].tries:
            self.states[name] = WAITING
        else:
            self.states[name] = FAILED
            self.skip()

    def skip(self):
        """Skip all that wait for what failed or is skipped."""
        # Jobs stand behind those that they need, so that one look at each is enough.
        for name in self.plan.names():
            needs = self.need_states(name)
            if self.states[name] == WAITING and (FAILED in needs or SKIPPED in needs):
                self.states[name] = SKIPPED

    def outcome(self):
        """Return "passed" or "failed" once nothing waits or runs, None before."""
        states = list(self.states.values())
        if WAITING in states or RUNNING in states:
            return None
        return PASSED if all([state == PASSED for state in states]) else FAILED


class Scheduler:
    """Workers, runs by tree in the order of asking, what came of trees, and a judge of (job, tree, how often tried)."""

    def __init__(self, plan, workers, judge):
        if workers < 1:
            raise CheckError(f'no workers: {workers}')
        self.plan = plan
        self.workers = workers
        self.judge = judge
        self.runs = {}
        self.outcomes = {}

    def ask(self, tree):
        """Let the checks of a tree run, unless they run or what came of them is known."""
        if tree not in self.runs and tree not in self.outcomes:
            self.runs[tree] = Run(self.plan, tree)

    def asked(self):
        """Return the trees whose checks run."""
        return list(self.runs)

    def cancel(self, tree):
        """Forget the checks of a tree that run."""
        self.runs.pop(tree, None)

    def settle(self, tree):
        """Note what came of a tree's checks if they are over."""
        if tree not in self.runs:
            return
        outcome = self.runs[tree].outcome()
        if outcome is not None:
            self.outcomes[tree] = outcome
            self.cancel(tree)

    def busy(self):
        """Return how many workers are at work."""
        return sum([len(run.running()) for run in self.runs.values()])

    def tick(self):
        """Let time pass: running jobs go on and end by the judge's word, then free workers begin the next ones."""
        judge = self.judge
        for tree in self.asked():
            run = self.runs[tree]
            for name in run.go_on():
                run.finish(name, judge(name, tree, run.tried[name]))
            self.settle(tree)
        for run in list(self.runs.values()):
            for name in run.ready():
                if self.busy() < self.workers:
                    run.begin(name)
