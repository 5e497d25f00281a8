"""Words: the values above 0 that names have, and the operations on values."""

from forkspan.basics import is_integer, is_name
from forkspan.errors import InvalidWords

PRIME = 1000003


def is_value(value):
    """Whether a value, of any kind at all, is a number below PRIME."""
    return is_integer(value) and 0 <= value < PRIME


def is_entry(value):
    """Whether a value is a pair that may stand in words."""
    if not isinstance(value, tuple) or len(value) != 2:
        return False
    return is_name(value[0]) and is_value(value[1]) and value[1] > 0


def is_words(value):
    """Whether a value, of any kind at all, is words."""
    if not isinstance(value, tuple):
        return False
    if not all([is_entry(entry) for entry in value]):
        return False
    names = [entry[0] for entry in value]
    return names == sorted(set(names))


def table_of(words):
    """The dict of the words' names and values; InvalidWords if they are no words."""
    if not is_words(words):
        raise InvalidWords(words)
    return {name: value for name, value in words}


def words_from(table):
    """The words of a dict of names and values."""
    # Words do not tell the value 0.
    return tuple([(name, table[name]) for name in sorted(table) if table[name] > 0])


def word_in(words, name):
    """The value of a name in words."""
    return table_of(words).get(name, 0)


def words_with(words, name, value):
    """The words in which a name has this value and all others have theirs."""
    table = table_of(words)
    table[name] = value
    return words_from(table)


def operated(op, a, b):
    """The value of an operation on two values."""
    if op == "+":
        return (a + b) % PRIME
    if op == "-":
        return (a - b) % PRIME
    if op == "*":
        return a * b % PRIME
    if op == "max":
        return max(a, b)
    if op == "min":
        return min(a, b)
    if op == "<":
        return int(a < b)
    return int(a == b)
