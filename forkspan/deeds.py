"""What a run knows of its blocks and its deeds."""

from forkspan.programs import names_in


class Scope:
    """A block that a run has come to: its name, its statements, and the values of the locals in it."""

    def __init__(self, name, block, given, around, place):
        self.name = name
        self.block = block
        self.given = given
        # The scope around it, and the number there of the statement that it is within; None for the program.
        self.around = around
        self.place = place


class Deed:
    """A deed that a run knows: what it is, what it works out, and what it comes directly behind."""

    def __init__(self, name, kind, scope, place):
        self.name = name
        self.kind = kind
        self.scope = scope
        self.place = place
        self.statement = scope.block[place]
        # What it works out: an expression, or the results of the deeds with the names in parts.
        self.expression = None
        self.given = scope.given
        self.parts = []
        self.behind = []
        # For how many blocks and deeds it waits whose last deed is not done.
        self.missing = 0
        self.result = 0


def touched(deed):
    """The words that a deed reads, the words that it sets, and the pairs (word, op) that it joins."""
    read = () if deed.expression is None else tuple(sorted(set(names_in(deed.expression, "word"))))
    name = deed.statement[1]
    if deed.kind == "set" or deed.kind == "keep":
        return (read, (name,), ())
    if deed.kind == "add":
        return (read, (), ((name, deed.statement[2]),))
    return (read, (), ())


def meant_block(scope, place):
    """The name of the block of the start that the await with this number in a scope means."""
    ticket = scope.block[place][1]
    while True:
        for number in reversed(range(place)):
            if scope.block[number][:2] == ("start", ticket):
                return scope.name + (number, 0)
        place = scope.place
        scope = scope.around


def stretches(count):
    """The stretches (low, high) of two or more of so many leaves, as halving makes them."""
    found = []
    waiting = [(0, count)]
    while waiting:
        low, high = waiting.pop()
        if high - low > 1:
            middle = (low + high) // 2
            found.append((low, high))
            waiting.extend([(low, middle), (middle, high)])
    return found


def stretch_name(name, low, high):
    """The name of the pair, or of the leaf, of a stretch of the fold with a name."""
    return name + (low,) if high - low == 1 else name + (low, high)
