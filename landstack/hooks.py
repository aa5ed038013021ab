"""Hooks: what happens is told to others, at least once, in order, and not for ever."""

from landstack.errors import HookError

ON = 'on'
OFF = 'off'
BROKEN = 'broken'
MOST_HELD = 100
# How many ticks pass behind the first failure in a row, behind the second, and so on.
TICKS_BEHIND_FAILURES = (1, 2, 4, 8, 16)


class Hook:
    """A name, the words of events that it wants, what waits, tries, when the next is due, its state, what it missed.

    What waits are (number, word, text) rows. States: "on", "off", "broken".
    """

    def __init__(self, name, words):
        self.name = name
        self.words = tuple(words)
        self.held = []
        self.tries = 0
        self.due_at = 0
        self.state = ON
        self.missed = 0

    def hold(self, event):
        """Let an event wait, if there is room for it."""
        if len(self.held) >= MOST_HELD:
            self.missed += 1
        else:
            self.held.append(event)

    def is_due(self, time):
        """Return True if an event is to be told at a time."""
        return self.state == ON and self.held != [] and self.due_at <= time

    def note(self, taken, time):
        """Note whether the first event was taken at a time."""
        if taken:
            # Whoever takes it may switch the hook off: then nothing is held any more.
            del self.held[:1]
            self.tries = 0
        elif self.tries < len(TICKS_BEHIND_FAILURES):
            self.due_at = time + TICKS_BEHIND_FAILURES[self.tries]
            self.tries += 1
        else:
            self.state = BROKEN


class Teller:
    """Hooks by name, the time, and the number of events."""

    def __init__(self):
        self.hooks = {}
        self.time = 0
        self.many = 0

    def add(self, name, words):
        """Add a hook; raise HookError if it is there, or wants nothing."""
        if name in self.hooks or len(words) == 0 or name == '':
            raise HookError(f'no hook: {name}')
        self.hooks[name] = Hook(name, words)

    def hook(self, name):
        """Return a hook; raise HookError for an unknown one."""
        if name not in self.hooks:
            raise HookError(f'no such hook: {name}')
        return self.hooks[name]

    def happen(self, word, text):
        """Note an event for all hooks that want its word and are on; return its number, from 1 on."""
        self.many += 1
        for hook in self.hooks.values():
            if hook.state == ON and word in hook.words:
                hook.hold((self.many, word, text))
        return self.many

    def tick(self, send):
        """Let time pass; send is a function of a hook's name and an event that returns True if it was taken.

        Each hook that is on gets its first event if it is due, and the next ones until one is not taken. Behind too
        many failures in a row the hook is broken.
        """
        self.time += 1
        for name in sorted(self.hooks):
            hook = self.hooks[name]
            while hook.is_due(self.time):
                hook.note(send(name, hook.held[0]), self.time)

    def switch(self, name, on):
        """Switch a hook on or off; what it holds goes when it is switched off, and it begins anew when it is on."""
        hook = self.hook(name)
        hook.tries = 0
        hook.due_at = self.time
        hook.state = ON if on else OFF
        if not on:
            hook.held = []
