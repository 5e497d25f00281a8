"""The text of a program by point [6], written with the places of what may not stand where it stands."""


class Marked:
    """Writes what has the form of a program, and keeps the places of misplaced locals, awaits and brackets.

    outer_brackets tells, when it is called, whether an operation is put in brackets that it must not have.
    """

    def __init__(self, program, outer_brackets=lambda: False):
        self.text = ""
        self.places = []
        self.outer_brackets = outer_brackets
        self.block(program, (), ())

    def tell(self, *texts):
        self.text += "".join(texts)

    def mark(self):
        self.places.append(len(self.text))

    def block(self, block, given, tickets):
        for k, statement in enumerate(block):
            if k:
                self.tell(";")
            self.statement(statement, given, tickets)
            if statement[0] == "start":
                tickets += (statement[1],)

    def braces(self, block, given, tickets):
        self.tell("{")
        self.block(block, given, tickets)
        self.tell("}")

    def statement(self, statement, given, tickets):
        match statement:
            case ("set", name, expression):
                self.tell(name, "=")
                self.outer(expression, given)
            case ("add", name, op, expression):
                self.tell(name, {"+": "+=", "*": "*=", "max": " max=", "min": " min="}[op])
                self.outer(expression, given)
            case ("if", expression, first, second):
                self.tell("if ")
                self.outer(expression, given)
                self.braces(first, given, tickets)
                self.braces(second, given, tickets)
            case ("fork", blocks):
                self.tell("fork")
                for block in blocks:
                    self.braces(block, given, tickets)
            case ("each", local, expression, block):
                self.tell("each ", local, "<")
                self.outer(expression, given)
                self.braces(block, given + (local,), tickets)
            case ("fold", name, op, local, first, last):
                self.tell("fold ", name, " ", op, " ", local, "<")
                self.outer(first, given)
                self.tell(":")
                self.outer(last, given + (local,))
            case ("start", ticket, block):
                self.tell("start ", ticket)
                self.braces(block, given, tickets)
            case ("await", ticket):
                if ticket not in tickets:
                    self.mark()
                self.tell("await ", ticket)

    def outer(self, expression, given):
        if expression[0] != "do":
            self.operand(expression, given)
        elif self.outer_brackets():
            self.mark()
            self.operand(expression, given)
        else:
            self.pair(expression, given)

    def pair(self, expression, given):
        op = expression[1]
        self.operand(expression[2], given)
        self.tell({"max": " max ", "min": " min "}.get(op, op))
        self.operand(expression[3], given)

    def operand(self, expression, given):
        match expression:
            case ("number", value):
                self.tell(str(value))
            case ("word", name):
                self.tell(name)
            case ("local", name):
                if name not in given:
                    self.mark()
                self.tell("$", name)
            case _:
                self.tell("(")
                self.pair(expression, given)
                self.tell(")")
