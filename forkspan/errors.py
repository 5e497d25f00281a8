"""The errors of the package: all stand directly under SpanError."""


class SpanError(ValueError):
    """What all errors of the package are; it is never raised itself."""


class InvalidProgram(SpanError):
    """What must be a program is none."""

    def __init__(self, value):
        self.value = value


class InvalidWords(SpanError):
    """What must be words is none."""

    def __init__(self, value):
        self.value = value


class InvalidGraph(SpanError):
    """What must be a graph is none."""

    def __init__(self, value):
        self.value = value


class InvalidNumber(SpanError):
    """A number does not tell what it must tell."""

    def __init__(self, value):
        self.value = value


class InvalidClaim(SpanError):
    """What must be a claim is none."""

    def __init__(self, value):
        self.value = value


class InvalidText(SpanError):
    """A text cannot be read, from the sign with the number at."""

    def __init__(self, text, at):
        self.text = text
        self.at = at


class InvalidLine(SpanError):
    """A desk does not know the form of a line, from the sign with the number at."""

    def __init__(self, line, at):
        self.line = line
        self.at = at


class NotReady(SpanError):
    """A plan tells a deed in a step at which it is not ready."""

    def __init__(self, step, deed):
        self.step = step
        self.deed = deed


class Refused(SpanError):
    """A claim is not true."""

    def __init__(self, claim):
        self.claim = claim


class UnknownName(SpanError):
    """A desk keeps no program of this name."""

    def __init__(self, name):
        self.name = name


class Undefined(SpanError):
    """There is no such thing as was asked for."""

    def __init__(self, what):
        self.what = what


class NothingToUndo(SpanError):
    """A desk has no line to undo or to redo."""

    def __init__(self, word):
        self.word = word
