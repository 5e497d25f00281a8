"""Values of tuples, integers and strings as texts, and texts as values."""

from forkspan.errors import InvalidText

MOST_FIGURES = 9
MOST_TUPLES = 60
# The number of the percent sign, which stands in no text.
PERCENT = 37


def told(value):
    """The text of a value."""
    texts = []
    # A list of what is still to be told, since a value may be too deep for calls.
    waiting = [("value", value)]
    while waiting:
        kind, part = waiting.pop()
        if kind == "sign":
            texts.append(part)
        elif isinstance(part, tuple):
            waiting.extend(tuple_pieces(part)[::-1])
        elif isinstance(part, str):
            texts.extend(['"', part, '"'])
        else:
            texts.append(str(part))
    return "".join(texts)


def untold(text):
    """The value whose text this is; InvalidText for every other string."""
    reader = ValueReader(text)
    value = reader.read_value()
    if reader.at < len(text):
        raise InvalidText(text, reader.at)
    return value


def tuple_pieces(parts):
    """What the text of a tuple consists of: pairs ("sign", text) and pairs ("value", part)."""
    pieces = [("sign", "(")]
    for number, part in enumerate(parts):
        if number > 0:
            pieces.append(("sign", ","))
        pieces.append(("value", part))
    # So that a single part in brackets is a tuple.
    pieces.append(("sign", ",)" if len(parts) == 1 else ")"))
    return pieces


def is_plain(sign):
    """Whether a sign may stand in a string, but for the one that ends it."""
    return " " <= sign <= "~" and ord(sign) != PERCENT


class ValueReader:
    """Reads the text of a value from its first sign on."""

    def __init__(self, text):
        self.text = text
        self.at = 0
        # How many tuples around the next sign are not ended.
        self.around = 0

    def sign(self):
        """The next sign, "" at the end."""
        return self.text[self.at:self.at + 1]

    def take(self, sign):
        """Go on behind a sign that must stand here."""
        if self.sign() != sign:
            raise InvalidText(self.text, self.at)
        self.at += 1

    def read_value(self):
        """Read a value."""
        if self.sign() == "(":
            return self.read_tuple()
        if self.sign() == '"':
            return self.read_string()
        return self.read_integer()

    def read_integer(self):
        """Read the figures of an integer."""
        begin = self.at
        lowest = "0"
        if self.sign() == "-":
            self.at += 1
            lowest = "1"
        first = self.sign()
        if not lowest <= first <= "9":
            raise InvalidText(self.text, self.at)
        figures = 0
        while "0" <= self.sign() <= "9":
            if figures == MOST_FIGURES or figures == 1 and first == "0":
                raise InvalidText(self.text, self.at)
            figures += 1
            self.at += 1
        return int(self.text[begin:self.at])

    def read_string(self):
        """Read a string with the signs around it."""
        self.take('"')
        begin = self.at
        while self.sign() != '"':
            if not is_plain(self.sign()):
                raise InvalidText(self.text, self.at)
            self.at += 1
        self.take('"')
        return self.text[begin:self.at - 1]

    def read_tuple(self):
        """Read a tuple."""
        if self.around == MOST_TUPLES:
            raise InvalidText(self.text, self.at)
        self.around += 1
        self.take("(")
        parts = []
        while self.sign() != ")" or len(parts) > 1:
            parts.append(self.read_value())
            # The first part has a comma behind it even if no other one comes.
            if len(parts) > 1 and self.sign() == ")":
                break
            self.take(",")
        self.take(")")
        self.around -= 1
        return tuple(parts)
