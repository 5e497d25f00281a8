"""Programs and words drawn at random, each with a seed so that a test draws the same ones again, and small graphs."""

import itertools
import random

from forkspan.words import PRIME

NAMES = ("a", "b", "c", "maxi", "abcdefgh")
LOCALS = ("i", "k")
TICKETS = ("t", "u")


class Draw:
    """Draws programs; if it is loose, locals and awaits stand anywhere, otherwise only where they may stand."""

    def __init__(self, seed, loose=False, names=NAMES):
        self.random = random.Random(seed)
        self.loose = loose
        self.names = names

    def pick(self, things):
        return self.random.choice(list(things))

    def words(self):
        return tuple([(name, self.pick((1, 2, 3, 6, 7, PRIME - 1))) for name in sorted(NAMES) if self.pick((0, 1))])

    def expression(self, given, depth=2):
        if depth and self.pick((0, 0, 1)):
            op = self.pick(("+", "-", "*", "max", "min", "<", "="))
            return ("do", op, self.expression(given, depth - 1), self.expression(given, depth - 1))
        head = self.pick(("number", "number", "word", "word", "local") if given else ("number", "word", "word"))
        if head == "number":
            return ("number", self.pick((0, 1, 2, 3, 4, 5, 6, 7, 100000, PRIME - 1)))
        return (head, self.pick(self.names if head == "word" else given))

    def program(self, depth=3, longest=3):
        return self.block((), (), depth, longest)

    def block(self, given, tickets, depth, longest):
        if self.loose:
            given, tickets = LOCALS, TICKETS
        statements = []
        for _ in range(self.random.randint(0, longest)):
            statement = self.statement(given, tickets, depth)
            if statement[0] == "start":
                tickets = tickets + (statement[1],)
            statements.append(statement)
        return tuple(statements)

    def statement(self, given, tickets, depth):
        heads = ["set", "add", "fold"]
        if depth:
            heads += ["if", "fork", "each", "start"]
        if tickets:
            heads += ["await", "await"]
        head = self.pick(heads)
        name = self.pick(self.names)
        first = self.expression(given)

        def inner(more=()):
            return self.block(given + more, tickets, depth - 1, 2)

        if head == "set":
            return ("set", name, first)
        if head == "add":
            return ("add", name, self.pick(("+", "*", "max", "min")), first)
        if head == "if":
            return ("if", first, inner(), inner())
        if head == "fork":
            return ("fork", tuple([inner() for _ in range(self.random.randint(1, 4))]))
        local = self.pick(LOCALS)
        if head == "each":
            return ("each", local, first, inner((local,)))
        if head == "fold":
            op = self.pick(("+", "-", "*", "max", "min"))
            return ("fold", name, op, local, first, self.expression(given + (local,)))
        if head == "start":
            return ("start", self.pick(TICKETS), inner())
        return ("await", self.pick(tickets))


def drawn_programs(many, **shape):
    """So many programs, each with words to begin with."""
    for seed in range(many):
        draw = Draw(seed)
        yield draw.program(**shape), draw.words()


def drawn_forks(many, depth=1):
    """So many programs of blocks side by side that share few words, each with words to begin with."""
    for seed in range(many):
        draw = Draw(seed, names=("a", "b"))
        blocks = tuple([draw.block((), (), depth, 2) for _ in range(draw.random.randint(2, 3))])
        yield (("fork", blocks),) + draw.block((), (), 0, 1), draw.words()


def all_graphs(most):
    """All graphs of at most so many nodes."""
    rows = []
    for node in range(most + 1):
        for graph in itertools.product(*rows):
            yield graph
        rows.append([row for many in range(node + 1) for row in itertools.combinations(range(node), many)])


def drawn_graphs(many, most):
    """So many graphs of at most so many nodes."""
    for seed in range(many):
        numbers = random.Random(seed)
        chance = numbers.choice((0.05, 0.2, 0.5))
        yield tuple([
            tuple([ahead for ahead in range(node) if numbers.random() < chance])
            for node in range(numbers.randint(0, most))
        ])
