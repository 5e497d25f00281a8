"""Runs by points [8], [9] and [15], in which all that is known is worked out anew ahead of each deed."""

from tests.model import OPS, value_of


class Plain:
    """A run in any order: results by the names of the deeds done, in this order, and the table of its words."""

    def __init__(self, program, words):
        self.program = program
        self.table = dict(words)
        self.results = {}
        self.look()

    def look(self):
        """Find all deeds known by what was done: (kind, statement, given, behind); behind is None if not known."""
        self.deeds = {}
        self.block(self.program, (), [], {}, {})

    def ready(self):
        return sorted([
            name for name, (_, _, _, behind) in self.deeds.items()
            if name not in self.results and behind is not None and all([ahead in self.results for ahead in behind])
        ])

    def end(self):
        return tuple(sorted([(name, value) for name, value in self.table.items() if value]))

    def do(self, name):
        assert name in self.ready()
        kind, statement, given, behind = self.deeds[name]
        result = 0
        if kind == "set":
            result = self.table[statement[1]] = value_of(statement[2], self.table, given)
        elif kind == "add":
            result = value_of(statement[3], self.table, given)
            self.table[statement[1]] = OPS[statement[2]](self.table.get(statement[1], 0), result)
        elif kind in ("if", "each", "fold", "leaf"):
            place = {"if": 1, "each": 2, "fold": 4, "leaf": 5}[kind]
            result = value_of(statement[place], self.table, given)
        elif kind == "pair":
            result = OPS[statement[2]](self.results[behind[0]], self.results[behind[1]])
        elif kind == "keep":
            result = 0 if len(behind[0]) == len(name) - 1 else self.results[behind[0]]
            self.table[statement[1]] = result
        self.results[name] = result
        self.look()

    def deed(self, name, kind, statement, given, behind):
        self.deeds[name] = (kind, statement, given, behind)
        return [name]

    def block(self, block, q, last, given, ends):
        """Returns the list with the last deed of a block, None if it is not known."""
        ends = dict(ends)
        for k, statement in enumerate(block):
            if last is None:
                return None
            last = self.statement(statement, q + (k,), last, given, ends)
        return last

    def statement(self, statement, name, last, given, ends):
        kind = statement[0]
        if kind == "await":
            ending = ends[statement[1]]
            return self.deed(name, kind, statement, given, None if ending is None else last + ending)
        own = self.deed(name, kind, statement, given, last)
        done = name in self.results
        if kind == "if":
            side = 0 if done and self.results[name] else 1
            return self.block(statement[2 + side], name + (side,), own, given, ends) if done else None
        if kind == "fork":
            lasts = [self.block(block, name + (b,), own, given, ends) for b, block in enumerate(statement[1])]
            return self.deed(name + (-1,), "join", statement, given, joined(lasts))
        if kind == "each":
            lasts = [None]
            if done:
                lasts = [
                    self.block(statement[3], name + (i,), own, {**given, statement[1]: i}, ends)
                    for i in range(self.results[name] % 7)
                ] or [own]
            return self.deed(name + (-1,), "join", statement, given, joined(lasts))
        if kind == "fold":
            behind = None
            if done:
                many = self.results[name] % 7
                behind = self.stretch(statement, name, given, 0, many) if many else own
            return self.deed(name + (-1,), "keep", statement, given, behind)
        if kind == "start":
            ends[statement[1]] = self.block(statement[2], name + (0,), own, given, ends)
        return own

    def stretch(self, statement, name, given, low, high):
        if high == low + 1:
            return self.deed(name + (low,), "leaf", statement, {**given, statement[3]: low}, [name])
        middle = (low + high) // 2
        behind = self.stretch(statement, name, given, low, middle) + self.stretch(statement, name, given, middle, high)
        return self.deed(name + (low, high), "pair", statement, given, behind)


def joined(lasts):
    return None if None in lasts else [name for last in lasts for name in last]
