"""The lines of a desk: which forms they have, and what their words tell."""

from forkspan.basics import is_name, is_number, is_word
from forkspan.claims import is_cores
from forkspan.errors import InvalidLine, InvalidText
from forkspan.runs import is_plan
from forkspan.told import untold
from forkspan.words import is_value

# The kinds of what stands behind the first word, by this word.
FORMS = {
    "program": ("word", "text"),
    "word": ("name", "value"),
    "serial": ("word",),
    "race": ("word",),
    "steal": ("word", "cores", "numbers"),
    "replay": ("word", "plan"),
    "seal": ("word",),
    "least": ("word", "cores"),
    "drop": ("word",),
    "undo": (),
    "redo": (),
}
# The kinds of what goes on to the end of the line, blanks and all.
LONG_KINDS = ("text", "plan")


def read_line(line):
    """The first word of a line and what stands behind it, each part as what it tells."""
    head = line.partition(" ")[0]
    if head not in FORMS:
        raise InvalidLine(line, 0)
    parts = [head]
    at = len(head)
    for kind in FORMS[head]:
        if kind == "numbers":
            parts.append(read_numbers(line, at))
            at = len(line)
        else:
            part = part_at(line, at, kind)
            parts.append(meaning(line, at + 1, kind, part))
            at += 1 + len(part)
    if at < len(line):
        raise InvalidLine(line, at + 1)
    return parts


def read_numbers(line, at):
    """The numbers that the words from a place to the end of a line tell."""
    numbers = []
    while at < len(line):
        part = part_at(line, at, "number")
        numbers.append(meaning(line, at + 1, "number", part))
        at += 1 + len(part)
    return tuple(numbers)


def part_at(line, at, kind):
    """What stands, as a part of a kind, behind the blank that must stand at a place in a line."""
    if at == len(line):
        raise InvalidLine(line, at)
    rest = line[at + 1:]
    return rest if kind in LONG_KINDS else rest.partition(" ")[0]


def meaning(line, at, kind, part):
    """What a part of a kind tells, which begins at a place in a line."""
    if kind == "text":
        return part
    value = part if kind in ("word", "name") else untold_or_none(part)
    if not is_right(kind, value):
        raise InvalidLine(line, at)
    return value


def untold_or_none(text):
    """The value whose text this is, None if there is none."""
    try:
        return untold(text)
    except InvalidText:
        return None


def is_right(kind, value):
    """Whether a value may be told by a part of a kind."""
    if kind == "word":
        return is_word(value)
    if kind == "name":
        return is_name(value)
    if kind == "value":
        return is_value(value)
    if kind == "cores":
        return is_cores(value)
    if kind == "plan":
        return is_plan(value)
    return is_number(value)
