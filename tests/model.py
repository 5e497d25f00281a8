"""The serial run by points [8] to [11], statement by statement, with calls instead of a list of ready deeds."""

from forkspan.words import PRIME

OPS = {
    "+": lambda a, b: (a + b) % PRIME,
    "-": lambda a, b: (a - b) % PRIME,
    "*": lambda a, b: a * b % PRIME,
    "max": max,
    "min": min,
    "<": lambda a, b: 1 if a < b else 0,
    "=": lambda a, b: 1 if a == b else 0,
}


def value_of(expression, table, given):
    """The value of an expression with these values of words and of locals."""
    head = expression[0]
    if head == "number":
        return expression[1]
    if head == "word":
        return table.get(expression[1], 0)
    if head == "local":
        return given[expression[1]]
    return OPS[expression[1]](value_of(expression[2], table, given), value_of(expression[3], table, given))


class Model:
    """Runs a program; then names, kinds, behind, touches and results tell of its deeds, and table of its words."""

    def __init__(self, program, words):
        self.table = dict(words)
        self.names = []
        self.kinds = {}
        self.behind = {}
        self.touches = {}
        self.results = {}
        self.block(program, (), [], {}, {})

    def end(self):
        return tuple(sorted([(name, value) for name, value in self.table.items() if value]))

    def graph(self):
        return tuple([tuple(sorted({self.names.index(ahead) for ahead in self.behind[name]})) for name in self.names])

    def deed(self, name, kind, behind, touches=((), (), ()), result=0):
        self.names.append(name)
        self.kinds[name] = kind
        self.behind[name] = behind
        self.touches[name] = touches
        self.results[name] = result
        return [name]

    def value(self, expression, given):
        return value_of(expression, self.table, given)

    def read(self, expression):
        if expression[0] == "do":
            return tuple(sorted({*self.read(expression[2]), *self.read(expression[3])}))
        return (expression[1],) if expression[0] == "word" else ()

    def block(self, block, q, last, given, ends):
        """Returns the list with the last deed of a block, ends being that of the block of each ticket."""
        ends = dict(ends)
        for k, statement in enumerate(block):
            last = getattr(self, "do_" + statement[0])(statement, q + (k,), last, given, ends)
        return last

    def do_set(self, statement, name, last, given, ends):
        value = self.value(statement[2], given)
        self.table[statement[1]] = value
        return self.deed(name, "set", last, (self.read(statement[2]), (statement[1],), ()), value)

    def do_add(self, statement, name, last, given, ends):
        value = self.value(statement[3], given)
        self.table[statement[1]] = OPS[statement[2]](self.table.get(statement[1], 0), value)
        touches = (self.read(statement[3]), (), ((statement[1], statement[2]),))
        return self.deed(name, "add", last, touches, value)

    def do_if(self, statement, name, last, given, ends):
        value = self.value(statement[1], given)
        own = self.deed(name, "if", last, (self.read(statement[1]), (), ()), value)
        if value:
            return self.block(statement[2], name + (0,), own, given, ends)
        return self.block(statement[3], name + (1,), own, given, ends)

    def do_fork(self, statement, name, last, given, ends):
        own = self.deed(name, "fork", last)
        lasts = [self.block(block, name + (b,), own, given, ends)[0] for b, block in enumerate(statement[1])]
        return self.deed(name + (-1,), "join", lasts)

    def do_each(self, statement, name, last, given, ends):
        value = self.value(statement[2], given)
        own = self.deed(name, "each", last, (self.read(statement[2]), (), ()), value)
        lasts = []
        for i in range(value % 7):
            lasts += self.block(statement[3], name + (i,), own, {**given, statement[1]: i}, ends)
        return self.deed(name + (-1,), "join", lasts or own)

    def do_fold(self, statement, name, last, given, ends):
        value = self.value(statement[4], given)
        own = self.deed(name, "fold", last, (self.read(statement[4]), (), ()), value)
        behind, result = own, 0
        if value % 7:
            behind, result = self.stretch(statement, name, own, given, 0, value % 7)
        self.table[statement[1]] = result
        return self.deed(name + (-1,), "keep", behind, ((), (statement[1],), ()), result)

    def stretch(self, statement, name, own, given, low, high):
        if high == low + 1:
            result = self.value(statement[5], {**given, statement[3]: low})
            return self.deed(name + (low,), "leaf", own, (self.read(statement[5]), (), ()), result), result
        middle = (low + high) // 2
        lower, left = self.stretch(statement, name, own, given, low, middle)
        upper, right = self.stretch(statement, name, own, given, middle, high)
        result = OPS[statement[2]](left, right)
        return self.deed(name + (low, high), "pair", lower + upper, result=result), result

    def do_start(self, statement, name, last, given, ends):
        own = self.deed(name, "start", last)
        ends[statement[1]] = self.block(statement[2], name + (0,), own, given, ends)
        return own

    def do_await(self, statement, name, last, given, ends):
        return self.deed(name, "await", last + ends[statement[1]])
