"""Programs as texts, and texts as programs."""

from forkspan.basics import LONGEST_WORD, NO_NAMES
from forkspan.errors import InvalidProgram, InvalidText
from forkspan.programs import MOST_BLOCKS, OPERATIONS, STATEMENTS, is_program
from forkspan.words import PRIME

MOST_OPEN = 40
LONG_OPS = ("max", "min")
# What stands behind the first word of a statement, @ for each of its parts in their order.
FORMS = {
    "if": " @{@}{@}",
    "fork": "@",
    "each": " @<@{@}",
    "fold": " @ @ @<@:@",
    "start": " @{@}",
    "await": " @",
}
# Where the local stands among the parts of a statement; it is known in the last part alone.
LOCAL_PLACES = {"each": 0, "fold": 2}


def program_text(program):
    """The text of a program."""
    if not is_program(program):
        raise InvalidProgram(program)
    texts = []
    # A list of what is still to be told, since a program may be too deep for calls.
    waiting = [("block", program)]
    while waiting:
        piece = waiting.pop()
        if isinstance(piece, str):
            texts.append(piece)
        else:
            waiting.extend(pieces_of(*piece)[::-1])
    return "".join(texts)


def read_program(text):
    """The program whose text this is; InvalidText for every other string."""
    reader = Reader(text)
    program = reader.read_block("", (), ())
    if reader.misplaced:
        raise InvalidText(text, min(reader.misplaced))
    return program


def pieces_of(kind, part):
    """What the text of a part consists of: strings, and pairs (kind, part) of the parts within it."""
    if kind == "block":
        return block_pieces(part)
    if kind == "blocks":
        return [piece for block in part for piece in ("{", ("block", block), "}")]
    if kind == "statement":
        return statement_pieces(part)
    if kind == "expression":
        return expression_pieces(part)
    if kind == "operand" and part[0] == "do":
        return ["(", ("expression", part), ")"]
    if kind == "operand":
        return [("expression", part)]
    return [part]


def block_pieces(block):
    """The pieces of a block, without its braces."""
    pieces = []
    for statement in block:
        if pieces:
            pieces.append(";")
        pieces.append(("statement", statement))
    return pieces


def statement_pieces(statement):
    """The pieces of a statement."""
    head = statement[0]
    if head == "set":
        return [statement[1], "=", ("expression", statement[2])]
    if head == "add":
        blank = " " if statement[2] in LONG_OPS else ""
        return [statement[1], blank + statement[2] + "=", ("expression", statement[3])]
    signs = FORMS[head].split("@")
    pieces = [head + signs[0]]
    for kind, part, behind in zip(STATEMENTS[head], statement[1:], signs[1:]):
        pieces.extend([(kind, part), behind])
    return pieces


def expression_pieces(expression):
    """The pieces of an expression, without brackets around it."""
    head = expression[0]
    if head == "number":
        return [str(expression[1])]
    if head == "word":
        return [expression[1]]
    if head == "local":
        return ["$" + expression[1]]
    op = expression[1]
    between = " " + op + " " if op in LONG_OPS else op
    return [("operand", expression[2]), between, ("operand", expression[3])]


class Reader:
    """Reads the text of a program from its first sign on."""

    def __init__(self, text):
        self.text = text
        self.at = 0
        self.opened = 0
        # Where locals, awaits and outermost brackets stand that may not stand there:
        # kept until the end, since they are wrong behind all other faults.
        self.misplaced = []

    def sign(self):
        """The next sign, "" at the end."""
        return self.text[self.at:self.at + 1]

    def take(self, sign):
        """Go on behind a sign that must stand here."""
        if self.sign() != sign:
            raise InvalidText(self.text, self.at)
        if sign in ("(", "{"):
            if self.opened == MOST_OPEN:
                raise InvalidText(self.text, self.at)
            self.opened += 1
        if sign in (")", "}"):
            self.opened -= 1
        self.at += 1

    def read_word(self):
        """Read a word, as far as its letters go."""
        begin = self.at
        while "a" <= self.sign() <= "z":
            if self.at - begin == LONGEST_WORD:
                raise InvalidText(self.text, self.at)
            self.at += 1
        if self.at == begin:
            raise InvalidText(self.text, self.at)
        return self.text[begin:self.at]

    def read_name(self):
        """Read a word that may be a name, a local or a ticket."""
        word = self.read_word()
        # Another letter could still have made it a name, so it is wrong only behind it.
        if word in NO_NAMES:
            raise InvalidText(self.text, self.at)
        return word

    def read_value(self):
        """Read the figures of a value."""
        value = int(self.sign())
        self.at += 1
        # Behind a 0 at the beginning no figure may stand.
        while value > 0 and "0" <= self.sign() <= "9":
            value = 10 * value + int(self.sign())
            if value >= PRIME:
                raise InvalidText(self.text, self.at)
            self.at += 1
        return value

    def read_short_op(self, kind):
        """Read an op of one sign."""
        sign = self.sign()
        if sign not in OPERATIONS[kind]:
            raise InvalidText(self.text, self.at)
        self.at += 1
        return sign

    def read_long_op(self):
        """Read max or min."""
        self.take("m")
        rest = "ax" if self.sign() == "a" else "in"
        for sign in rest:
            self.take(sign)
        return "m" + rest

    def read_op_between(self):
        """Read the op between two operands, with its blanks."""
        if self.sign() != " ":
            return self.read_short_op("op of do")
        self.take(" ")
        op = self.read_long_op()
        self.take(" ")
        return op

    def read_expression(self, names):
        """Read an expression where these locals are known."""
        begin = self.at
        left = self.read_operand(names)
        if self.sign() == " " or self.sign() in OPERATIONS["op of do"]:
            return ("do", self.read_op_between(), left, self.read_operand(names))
        if left[0] == "do":
            self.misplaced.append(begin)
        return left

    def read_operand(self, names):
        """Read an operand where these locals are known."""
        sign = self.sign()
        if sign == "(":
            return self.read_bracket(names)
        if sign == "$":
            return self.read_local(names)
        if "0" <= sign <= "9":
            return ("number", self.read_value())
        return ("word", self.read_name())

    def read_bracket(self, names):
        """Read two operands in brackets."""
        self.take("(")
        left = self.read_operand(names)
        op = self.read_op_between()
        right = self.read_operand(names)
        self.take(")")
        return ("do", op, left, right)

    def read_local(self, names):
        """Read a local."""
        begin = self.at
        self.take("$")
        name = self.read_name()
        if name not in names:
            self.misplaced.append(begin)
        return ("local", name)

    def read_block(self, ending, names, tickets):
        """Read statements up to the sign that ends them, where these locals and tickets are known."""
        if self.sign() == ending:
            return ()
        statements = [self.read_statement(names, tickets)]
        while self.sign() != ending:
            if statements[-1][0] == "start":
                tickets = tickets + (statements[-1][1],)
            self.take(";")
            statements.append(self.read_statement(names, tickets))
        return tuple(statements)

    def read_statement(self, names, tickets):
        """Read a statement where these locals and tickets are known."""
        begin = self.at
        word = self.read_word()
        if word == "fork":
            return (word, self.read_blocks(names, tickets))
        if word in FORMS:
            statement = self.read_form(word, names, tickets)
            if word == "await" and statement[1] not in tickets:
                self.misplaced.append(begin)
            return statement
        if word in NO_NAMES:
            raise InvalidText(self.text, self.at)
        return self.read_change(word, names)

    def read_change(self, name, names):
        """Read what stands behind the name of a set or an add."""
        if self.sign() == "=":
            self.take("=")
            return ("set", name, self.read_expression(names))
        if self.sign() == " ":
            self.take(" ")
            op = self.read_long_op()
        else:
            op = self.read_short_op("op of add")
        self.take("=")
        return ("add", name, op, self.read_expression(names))

    def read_form(self, head, names, tickets):
        """Read what stands behind the first word of a statement."""
        signs = FORMS[head].split("@")
        self.take_all(signs[0])
        parts = []
        for kind, behind in zip(STATEMENTS[head], signs[1:]):
            if head in LOCAL_PLACES and len(parts) + 1 == len(STATEMENTS[head]):
                names = names + (parts[LOCAL_PLACES[head]],)
            if kind == "block":
                parts.append(self.read_block("}", names, tickets))
            else:
                parts.append(self.read_part(kind, names))
            self.take_all(behind)
        return (head, *parts)

    def take_all(self, signs):
        """Go on behind signs that must stand here."""
        for sign in signs:
            self.take(sign)

    def read_part(self, kind, names):
        """Read a part of a statement that is no block."""
        if kind == "expression":
            return self.read_expression(names)
        if kind == "name":
            return self.read_name()
        return self.read_long_op() if self.sign() == "m" else self.read_short_op(kind)

    def read_blocks(self, names, tickets):
        """Read the blocks of a fork."""
        blocks = []
        while not blocks or self.sign() == "{" and len(blocks) < MOST_BLOCKS:
            self.take("{")
            blocks.append(self.read_block("}", names, tickets))
            self.take("}")
        return tuple(blocks)
