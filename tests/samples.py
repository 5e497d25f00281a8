"""Values that several tests use: right and wrong words, and how to change a part of a value."""

import inspect
import sys

from forkspan.words import PRIME

KEYWORDS = ("if", "fork", "each", "fold", "start", "await", "max", "min")

# What never may stand in a program or in words, wherever it is put.
NEVER = (
    True, False, None, -1, PRIME, PRIME + 1, -PRIME, 10 ** 30,
    "", "abcdefghi", "Ab", "aB", "Z", "a1", "1", "a b", " a", "a ", "a_", "`", "{", "a\n", "\n", "-a",
    "\u00e4", "\u0430", "\uff41", "\ud800", "\u00aa",
    [], [1], ["a"], ("a",), (0,), (None,), (True, True), [[]],
)

WRONG_NAMES = NEVER + KEYWORDS + ((), ((),), 0, 1, "+", "=", "<", ("word", "a"), ("number", 1), ["a", "b"])

RIGHT_NAMES = ("a", "z", "az", "abcdefgh", "zzzzzzzz", "iff", "fo", "maxi", "mi", "set", "add", "word", "local", "do")


def deep(depth, wrap):
    """A value of so many tuples or lists within one another."""
    value = wrap([])
    for _ in range(depth - 1):
        value = wrap([value])
    return value


# What is no program at all and no words, for which nothing but False may come.
NO_TUPLES = (
    True, False, None, 0, 1, -1, PRIME, "", "a", "set", "a=1", [], [[]], [("set", "a", ("number", 1))],
    [("a", 1)], deep(60, list), deep(200, list),
)


def paths(value):
    """All places within a value, as tuples of indexes, beginning with () for the whole."""
    found = [()]
    if isinstance(value, tuple):
        for place, part in enumerate(value):
            found.extend([(place,) + path for path in paths(part)])
    return found


def part_at(value, path):
    """What stands at a place within a value."""
    for place in path:
        value = value[place]
    return value


def changed(value, path, part):
    """The value with another part at a place."""
    if not path:
        return part
    place = path[0]
    return value[:place] + (changed(value[place], path[1:], part),) + value[place + 1:]


def with_few_calls(function, *values):
    """What a function returns that may go only some 200 calls deep."""
    limit = sys.getrecursionlimit()
    sys.setrecursionlimit(len(inspect.stack(0)) + 200)
    try:
        return function(*values)
    finally:
        sys.setrecursionlimit(limit)
