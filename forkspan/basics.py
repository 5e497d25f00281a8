"""What the whole package means by an integer, a word and a name."""

LONGEST_WORD = 8
# Program texts give these words a meaning of their own.
NO_NAMES = ("if", "fork", "each", "fold", "start", "await", "max", "min")


def is_integer(value):
    """Whether a value is an integer: an int that is not a bool."""
    return isinstance(value, int) and not isinstance(value, bool)


def is_word(value):
    """Whether a value is a string of 1 to 8 letters a to z."""
    if not isinstance(value, str) or not 1 <= len(value) <= LONGEST_WORD:
        return False
    # Python's own isalpha and islower know far more letters.
    return all(["a" <= sign <= "z" for sign in value])


def is_name(value):
    """Whether a value is a word that may be a name, a local or a ticket."""
    return is_word(value) and value not in NO_NAMES


def is_integers(value):
    """Whether a value, of any kind at all, is a tuple of integers, as names of deeds are."""
    return isinstance(value, tuple) and all([is_integer(part) for part in value])


def is_number(value):
    """Whether a value, of any kind at all, is an integer from 0 on."""
    return is_integer(value) and value >= 0
