"""Stealing: cores with rows of ready deeds, which take deeds from each other when their own row is empty."""

from forkspan.basics import is_integer
from forkspan.errors import InvalidNumber
from forkspan.machine import begun
from forkspan.runs import ready_names
from forkspan.serial import serial_place

# A pick with this remainder delays its core; otherwise the quotient tells the core to steal from.
PICK_BASE = 5
DELAYED = 4


def stolen_run(program, words, cores, picks):
    """The plan, the words behind it, the steals, and how often a core failed and how often one was delayed."""
    crew = whole_run(program, words, cores, picks)
    return (tuple(crew.plan), crew.machine.words_now(), tuple(crew.steals), crew.failures, crew.delays)


def rows_at(program, words, cores, picks, step):
    """The rows of the cores at the beginning of a step, or behind the last one."""
    crew = whole_run(program, words, cores, picks)
    if not is_integer(step) or not 0 <= step < len(crew.seen):
        raise InvalidNumber(step)
    return crew.seen[step]


def row_bound(program, words):
    """The most deeds that the row of a single core has at the beginning of a step."""
    return max([len(rows[0]) for rows in whole_run(program, words, 1, ()).seen])


def whole_run(program, words, cores, picks):
    """The crew behind the last step."""
    crew = Crew(program, words, cores, picks)
    while crew.machine.ready:
        crew.do_step()
    return crew


class Crew:
    """So many cores with their rows, and what they have done so far."""

    def __init__(self, program, words, cores, picks):
        self.machine = begun(program, words)
        self.picks = picks
        self.used = 0
        self.rows = [[] for _ in range(cores)]
        # At most the first deed of the program is ready.
        self.rows[0] = list(ready_names(self.machine))
        # The rows at the beginning of each step, and now.
        self.seen = [self.rows_now()]
        self.plan = []
        self.steals = []
        self.failures = 0
        self.delays = 0

    def rows_now(self):
        """The rows as they are now."""
        return tuple([tuple(row) for row in self.rows])

    def do_step(self):
        """Let all cores act once."""
        doers = {}
        for core in range(len(self.rows)):
            name = self.next_deed(core)
            if name is not None:
                self.machine.perform(name)
                doers[name] = core
        self.plan.append(tuple(doers))
        self.put_ready(doers)
        self.seen.append(self.rows_now())

    def next_deed(self, core):
        """The deed that a core takes or steals, None if it is delayed or fails."""
        pick = self.picks[self.used] if self.used < len(self.picks) else None
        self.used += 1
        if pick is not None and pick % PICK_BASE == DELAYED:
            self.delays += 1
            return None
        if self.rows[core]:
            return self.rows[core].pop()
        victim = self.victim(pick)
        if not self.rows[victim]:
            self.failures += 1
            return None
        name = self.rows[victim].pop(0)
        self.steals.append((len(self.plan), core, victim, name))
        return name

    def victim(self, pick):
        """The core from which a core with this pick tries to steal."""
        if pick is not None:
            return pick // PICK_BASE % len(self.rows)
        # Where all rows are empty it does not matter which one is tried.
        return min([core for core, row in enumerate(self.rows) if row], default=0)

    def put_ready(self, doers):
        """Put what has become ready into the rows of the cores that made it so, the serially first one last."""
        waiting = {name: True for row in self.rows for name in row}
        names = [name for name in self.machine.ready if name not in waiting]
        for name in sorted(names, key=serial_place, reverse=True):
            behind = self.machine.ready[name].behind
            self.rows[max([doers[ahead] for ahead in behind if ahead in doers])].append(name)
