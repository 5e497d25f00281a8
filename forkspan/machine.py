"""A run, deed by deed: what is ready, and what each deed does to the words and makes known."""

from forkspan.deeds import Deed, Scope, meant_block, stretch_name, stretches
from forkspan.errors import InvalidProgram
from forkspan.programs import is_program, parts_of
from forkspan.words import operated, table_of, words_from

# Rounds and leaves are always fewer than this.
ROUNDS = 7


def begun(program, words):
    """A run in which nothing is done yet."""
    if not is_program(program):
        raise InvalidProgram(program)
    return Machine(program, words)


def value_of(expression, table, given):
    """The value of an expression with these values of words and of locals."""
    values = []
    # An op stands in this list behind its operands; a list since expressions may be too deep for calls.
    waiting = [expression]
    while waiting:
        part = waiting.pop()
        if isinstance(part, str):
            right = values.pop()
            left = values.pop()
            values.append(operated(part, left, right))
        elif part[0] == "do":
            waiting.extend([part[1], part[3], part[2]])
        elif part[0] == "number":
            values.append(part[1])
        elif part[0] == "word":
            values.append(table.get(part[1], 0))
        else:
            values.append(given[part[1]])
    return values[0]


class Machine:
    """A run: its words, the deeds that are ready and those that are done, by their names."""

    def __init__(self, program, words):
        self.table = table_of(words)
        self.ready = {}
        # In the order in which they were done.
        self.done = {}
        # By the name of a block, a leaf or a pair: its last deed, and the deeds that wait for it.
        self.ends = {}
        self.waiters = {}
        self.go_on(Scope((), program, {}, None, None), 0, None)

    def words_now(self):
        """The words as they are now."""
        return words_from(self.table)

    def perform(self, name):
        """Do a ready deed."""
        deed = self.ready.pop(name)
        self.done[name] = deed
        deed.result = self.worked_out(deed)
        self.change_words(deed)
        self.unfold(deed)

    def worked_out(self, deed):
        """The value that a deed works out."""
        if deed.expression is not None:
            return value_of(deed.expression, self.table, deed.given)
        results = [self.done[name].result for name in deed.parts]
        if len(results) == 2:
            return operated(deed.statement[2], results[0], results[1])
        return results[0] if results else 0

    def change_words(self, deed):
        """Set or join the word that a deed sets or joins."""
        name = deed.statement[1]
        if deed.kind == "set" or deed.kind == "keep":
            self.table[name] = deed.result
        elif deed.kind == "add":
            self.table[name] = operated(deed.statement[2], self.table.get(name, 0), deed.result)

    def unfold(self, deed):
        """Make known what is known now that a deed is done."""
        statement = deed.statement
        given = deed.scope.given
        if deed.kind == "if":
            number = 0 if deed.result != 0 else 1
            self.enter(deed, number, statement[2 + number], given)
        elif deed.kind == "fork":
            self.unfold_blocks(deed, [(block, given) for block in statement[1]])
        elif deed.kind == "each":
            count = deed.result % ROUNDS
            self.unfold_blocks(deed, [(statement[3], {**given, statement[1]: i}) for i in range(count)])
        elif deed.kind == "fold":
            self.unfold_fold(deed, deed.result % ROUNDS)
        elif deed.kind == "leaf" or deed.kind == "pair":
            self.end(deed.name, deed.name)
        else:
            if deed.kind == "start":
                self.enter(deed, 0, statement[2], given)
            self.go_on(deed.scope, deed.place + 1, deed.name)

    def unfold_blocks(self, deed, rows):
        """Enter the blocks of a fork or an each, told as pairs (block, values of locals)."""
        for number, (block, given) in enumerate(rows):
            self.enter(deed, number, block, given)
        join = Deed(deed.name + (-1,), "join", deed.scope, deed.place)
        names = [deed.name + (number,) for number in range(len(rows))]
        self.know(join, [] if names else [deed.name], names)

    def unfold_fold(self, deed, count):
        """Make the leaves, the pairs and the keep of a fold known."""
        for i in range(count):
            leaf = Deed(deed.name + (i,), "leaf", deed.scope, deed.place)
            leaf.expression = deed.statement[5]
            leaf.given = {**deed.given, deed.statement[3]: i}
            self.know(leaf, [deed.name], [])
        for low, high in stretches(count):
            pair = Deed(deed.name + (low, high), "pair", deed.scope, deed.place)
            middle = (low + high) // 2
            pair.parts = [stretch_name(deed.name, low, middle), stretch_name(deed.name, middle, high)]
            self.know(pair, [], pair.parts)
        keep = Deed(deed.name + (-1,), "keep", deed.scope, deed.place)
        if count > 0:
            keep.parts = [stretch_name(deed.name, 0, count)]
        self.know(keep, [] if keep.parts else [deed.name], keep.parts)

    def enter(self, deed, number, block, given):
        """Begin a block that hangs on a deed."""
        scope = Scope(deed.name + (number,), block, given, deed.scope, deed.place)
        self.go_on(scope, 0, deed.name)

    def go_on(self, scope, place, last):
        """Begin the statement with this number, or what stands behind the block, behind the deed last."""
        while place == len(scope.block):
            if scope.around is None:
                return
            if scope.around.block[scope.place][0] != "if":
                self.end(scope.name, last)
                return
            place = scope.place + 1
            scope = scope.around
        statement = scope.block[place]
        deed = Deed(scope.name + (place,), statement[0], scope, place)
        expressions = parts_of(statement, "expression")
        if expressions:
            deed.expression = expressions[0]
        names = [meant_block(scope, place)] if deed.kind == "await" else []
        self.know(deed, [] if last is None else [last], names)

    def know(self, deed, behind, names):
        """Make a deed known, directly behind these done deeds and the last deeds of what has these names."""
        deed.behind = behind + [self.ends[name] for name in names if name in self.ends]
        for name in names:
            if name not in self.ends:
                deed.missing += 1
                self.waiters.setdefault(name, []).append(deed)
        if deed.missing == 0:
            self.ready[deed.name] = deed

    def end(self, name, last):
        """Tell those who wait for it that the last deed of what has this name is done."""
        self.ends[name] = last
        waiting = self.waiters.pop(name, [])
        for deed in waiting:
            deed.behind.append(last)
            deed.missing -= 1
            if deed.missing == 0:
                self.ready[deed.name] = deed
