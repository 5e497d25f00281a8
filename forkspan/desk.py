"""A desk: programs by name, words, and claims with papers, asked and changed line by line."""

from forkspan.claims import seal_claim
from forkspan.errors import NothingToUndo, UnknownName
from forkspan.graphs import graph_of
from forkspan.least import least
from forkspan.lines import read_line
from forkspan.programtext import program_text, read_program
from forkspan.races import first_race
from forkspan.runs import run_plan
from forkspan.serial import serial_end
from forkspan.stealing import stolen_run
from forkspan.told import told
from forkspan.words import words_with


class Page:
    """What a desk keeps at one time."""

    def __init__(self):
        self.programs = {}
        self.words = ()
        self.claims = ()
        self.lines = ()

    def copied(self):
        """A page of its own that keeps the same."""
        page = Page()
        page.programs = dict(self.programs)
        page.words = self.words
        page.claims = self.claims
        page.lines = self.lines
        return page

    def program(self, name):
        """The program of a name."""
        if name not in self.programs:
            raise UnknownName(name)
        return self.programs[name]

    def keep(self, claim):
        """Keep a claim with a paper, and tell it."""
        self.claims = self.claims + ((claim, seal_claim(claim)),)
        return told(claim)


# Each of these takes a page and what stands behind the first word of a line.


def told_end(page, parts):
    """The words behind the serial run of a program."""
    return told(serial_end(page.program(parts[0]), page.words))


def told_race(page, parts):
    """The first race of a program."""
    race = first_race(page.program(parts[0]), page.words)
    return "calm" if race is None else told(race)


def told_steals(page, parts):
    """How many steps a run of a program by stealing has, its words and its steals."""
    name, cores, picks = parts
    plan, words, steals, _, _ = stolen_run(page.program(name), page.words, cores, picks)
    return told((len(plan), words, steals))


def told_replay(page, parts):
    """The words behind a plan of a program."""
    return told(run_plan(page.program(parts[0]), page.words, parts[1])[0])


def keep_program(page, parts):
    """Keep a program under its name."""
    name, text = parts
    page.programs[name] = read_program(text)
    return program_text(page.programs[name])


def keep_word(page, parts):
    """Give a word a value."""
    page.words = words_with(page.words, parts[0], parts[1])
    return told(page.words)


def keep_seal(page, parts):
    """Claim the end of a calm program, otherwise its first race."""
    program = page.program(parts[0])
    race = first_race(program, page.words)
    if race is None:
        return page.keep(("ends", program, page.words, serial_end(program, page.words)))
    return page.keep(("race", program, page.words, race[0], race[1]))


def keep_least(page, parts):
    """Claim the least number of steps of a program's graph."""
    name, cores = parts
    graph = graph_of(page.program(name), page.words)
    return page.keep(("least", graph, cores, least(graph, cores)))


def drop_program(page, parts):
    """Let a program go."""
    page.program(parts[0])
    del page.programs[parts[0]]
    return ""


# What a line with this first word does: some only answer, the others change a page.
ANSWERS = {"serial": told_end, "race": told_race, "steal": told_steals, "replay": told_replay}
CHANGES = {
    "program": keep_program,
    "word": keep_word,
    "seal": keep_seal,
    "least": keep_least,
    "drop": drop_program,
}


class Desk:
    """Keeps programs by name, words to begin with, claims with papers, and the lines that made them so."""

    def __init__(self):
        self.claims = ()
        self.lines = ()
        # The first page, and one behind each line that changed something, also behind those undone.
        self.pages = [Page()]
        self.place = 0

    def run(self, line):
        """Do a line, and tell its answer."""
        head, *parts = read_line(line)
        if head == "undo":
            return self.turn_to(self.place - 1, head)
        if head == "redo":
            return self.turn_to(self.place + 1, head)
        if head in ANSWERS:
            answer = ANSWERS[head]
            return answer(self.pages[self.place], parts)
        return self.changed(line, head, parts)

    def changed(self, line, head, parts):
        """Do a line that changes what is kept, and tell its answer."""
        page = self.pages[self.place].copied()
        page.lines = page.lines + (line,)
        change = CHANGES[head]
        text = change(page, parts)
        # Only now, since a line that raises changes nothing.
        self.pages = self.pages[:self.place + 1] + [page]
        self.turn_to(self.place + 1, head)
        return text

    def turn_to(self, place, word):
        """Go to a page, as undo and redo do."""
        if not 0 <= place < len(self.pages):
            raise NothingToUndo(word)
        self.place = place
        self.claims = self.pages[place].claims
        self.lines = self.pages[place].lines
        return ""


def replayed(lines):
    """A desk on which lines were run."""
    desk = Desk()
    for line in lines:
        desk.run(line)
    return desk
