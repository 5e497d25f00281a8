"""Programs: their form, where locals and awaits may stand, their words."""

from forkspan.basics import is_name
from forkspan.errors import InvalidProgram
from forkspan.words import is_value

MOST_BLOCKS = 4

# The kinds of the parts behind the first one, which tells the form.
STATEMENTS = {
    "set": ("name", "expression"),
    "add": ("name", "op of add", "expression"),
    "if": ("expression", "block", "block"),
    "fork": ("blocks",),
    "each": ("name", "expression", "block"),
    "fold": ("name", "op of fold", "name", "expression", "expression"),
    "start": ("name", "block"),
    "await": ("name",),
}
EXPRESSIONS = {
    "number": ("value",),
    "word": ("name",),
    "local": ("name",),
    "do": ("op of do", "expression", "expression"),
}
OPERATIONS = {
    "op of add": ("+", "*", "max", "min"),
    "op of fold": ("+", "-", "*", "max", "min"),
    "op of do": ("+", "-", "*", "max", "min", "<", "="),
}


def is_program(value):
    """Whether a value, of any kind at all, is a program."""
    return has_form(value) and is_well_placed(value)


def words_of(program):
    """The names that a program sets, adds to, folds into or reads, ascending."""
    if not is_program(program):
        raise InvalidProgram(program)
    names = []
    for statement in all_statements(program):
        if statement[0] in ("set", "add", "fold"):
            names.append(statement[1])
        for expression in parts_of(statement, "expression"):
            names.extend(names_in(expression, "word"))
    return tuple(sorted(set(names)))


def has_form(value):
    """Whether a value is a program but for where locals and awaits stand."""
    # A list of what is still to be looked at, since any value may be too deep for calls.
    waiting = [("block", value)]
    while waiting:
        kind, part = waiting.pop()
        parts = inner_parts(kind, part)
        if parts is None:
            return False
        waiting.extend(parts)
    return True


def inner_parts(kind, value):
    """The pairs (kind, part) that must be right for a value to be of its kind; None if it is not."""
    if kind == "block" or kind == "blocks":
        return parts_in_row(kind, value)
    if kind == "statement" or kind == "expression":
        return parts_in_form(kind, value)
    return [] if is_simple(kind, value) else None


def parts_in_row(kind, value):
    """The parts of a block or of the blocks of a fork, with their kinds, or None."""
    if not isinstance(value, tuple):
        return None
    if kind == "block":
        return [("statement", part) for part in value]
    if not 1 <= len(value) <= MOST_BLOCKS:
        return None
    return [("block", part) for part in value]


def parts_in_form(kind, value):
    """The parts of a statement or an expression behind its first one, with their kinds, or None."""
    if not isinstance(value, tuple) or len(value) == 0 or not isinstance(value[0], str):
        return None
    kinds = STATEMENTS.get(value[0]) if kind == "statement" else EXPRESSIONS.get(value[0])
    if kinds is None or len(value) != len(kinds) + 1:
        return None
    return list(zip(kinds, value[1:]))


def is_simple(kind, value):
    """Whether a value is a name, a value or an op, as the kind tells."""
    if kind == "name":
        return is_name(value)
    if kind == "value":
        return is_value(value)
    return value in OPERATIONS[kind]


def is_well_placed(program):
    """Whether each local and each await stands where it may, in what has the form of a program."""
    waiting = [(program, (), ())]
    while waiting:
        block, names, tickets = waiting.pop()
        for statement in block:
            if not is_statement_placed(statement, names, tickets):
                return False
            inside = names + (statement[1],) if statement[0] == "each" else names
            waiting.extend([(inner, inside, tickets) for inner in blocks_of(statement)])
            if statement[0] == "start":
                # Only now, since an await within its own block does not mean it.
                tickets = tickets + (statement[1],)
    return True


def is_statement_placed(statement, names, tickets):
    """Whether a statement may stand, but for its blocks, where these locals and tickets are known."""
    if statement[0] == "await" and statement[1] not in tickets:
        return False
    for expression, known in expressions_with_locals(statement, names):
        if not all([name in known for name in names_in(expression, "local")]):
            return False
    return True


def expressions_with_locals(statement, names):
    """The pairs (expression, locals known in it) of a statement where these locals are known."""
    expressions = parts_of(statement, "expression")
    if statement[0] == "fold":
        return [(expressions[0], names), (expressions[1], names + (statement[3],))]
    return [(expression, names) for expression in expressions]


def parts_of(statement, kind):
    """The parts of a statement that are of a kind, in their order."""
    return [part for own, part in zip(STATEMENTS[statement[0]], statement[1:]) if own == kind]


def blocks_of(statement):
    """The blocks of a statement, in their order."""
    if statement[0] == "fork":
        return list(statement[1])
    return parts_of(statement, "block")


def all_statements(program):
    """All statements of a program, also those within others, each ahead of those in its blocks."""
    found = []
    waiting = [program]
    while waiting:
        block = waiting.pop()
        for statement in block:
            found.append(statement)
            waiting.extend(blocks_of(statement))
    return found


def names_in(expression, head):
    """The names of all words, or of all locals, in an expression."""
    names = []
    waiting = [expression]
    while waiting:
        part = waiting.pop()
        if part[0] == "do":
            waiting.extend(part[2:])
        elif part[0] == head:
            names.append(part[1])
    return names
