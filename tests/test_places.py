"""Point [5]: where locals and awaits may stand."""

import unittest

from forkspan.programs import is_program

ONE = ("number", 1)
SET = ("set", "a", ONE)
LOCAL = ("local", "i")
USE = ("set", "a", LOCAL)
START = ("start", "t", ())
AWAIT = ("await", "t")


def statements_with(expression):
    """A statement with the expression in each place in which it stands outside of all blocks."""
    return (
        ("set", "a", expression),
        ("add", "a", "+", expression),
        ("if", expression, (), ()),
        ("each", "k", expression, ()),
        ("fold", "a", "+", "k", expression, ONE),
        ("fold", "a", "+", "k", ONE, expression),
        ("set", "a", ("do", "+", expression, ONE)),
        ("set", "a", ("do", "+", ONE, ("do", "max", ("word", "b"), expression))),
    )


def statements_around(block):
    """A statement with the block in each place in which a block may stand."""
    return (
        ("if", ONE, block, ()),
        ("if", ONE, (), block),
        ("fork", (block,)),
        ("fork", (block, ())),
        ("fork", ((), (), (), block)),
        ("each", "k", ONE, block),
        ("start", "u", block),
    )


class Placed(unittest.TestCase):
    def assert_right(self, *statements):
        self.assertIs(is_program(statements), True, statements)

    def assert_wrong(self, *statements):
        self.assertIs(is_program(statements), False, statements)


class Locals(Placed):
    def test_none_outside(self):
        for statement in statements_with(LOCAL):
            self.assert_wrong(statement)
            for around in statements_around((statement,)):
                self.assert_wrong(around)

    def test_within_the_block_of_the_each(self):
        for statement in statements_with(LOCAL):
            self.assert_right(("each", "i", ONE, (SET, statement)))
            for around in statements_around((statement,)):
                self.assert_right(("each", "i", ONE, (around,)))
                for farther in statements_around((around, SET)):
                    self.assert_right(("each", "i", ONE, (farther,)))

    def test_not_in_the_own_first_expression_of_the_each(self):
        self.assert_wrong(("each", "i", LOCAL, ()))
        self.assert_wrong(("each", "i", LOCAL, (USE,)))
        self.assert_wrong(("each", "i", ("do", "+", ONE, LOCAL), (USE,)))

    def test_not_ahead_of_the_each_and_not_behind_it(self):
        each = ("each", "i", ONE, (USE,))
        self.assert_right(each, each)
        for statement in statements_with(LOCAL):
            self.assert_wrong(each, statement)
            self.assert_wrong(statement, each)
            self.assert_wrong(("if", ONE, (each,), (statement,)))
            self.assert_wrong(("fork", ((each,), (statement,))))
            self.assert_wrong(("if", ONE, (each,), ()), statement)

    def test_within_the_last_expression_of_the_fold_alone(self):
        self.assert_right(("fold", "a", "+", "i", ONE, LOCAL))
        self.assert_right(("fold", "a", "+", "i", ONE, ("do", "<", ("do", "*", LOCAL, LOCAL), ("word", "b"))))
        self.assert_wrong(("fold", "a", "+", "i", LOCAL, ONE))
        self.assert_wrong(("fold", "a", "+", "i", LOCAL, LOCAL))
        self.assert_wrong(("fold", "a", "+", "i", ("do", "+", ONE, LOCAL), ONE))

    def test_not_behind_the_fold_and_not_ahead_of_it(self):
        fold = ("fold", "a", "+", "i", ONE, LOCAL)
        self.assert_right(fold, fold)
        for statement in statements_with(LOCAL):
            self.assert_wrong(fold, statement)
            self.assert_wrong(statement, fold)
        self.assert_wrong(("fold", "i", "+", "k", ONE, LOCAL))

    def test_another_name_than_the_local(self):
        for name in ("k", "j", "ii", "a"):
            self.assert_wrong(("each", name, ONE, (USE,)))
            self.assert_wrong(("fold", "a", "+", name, ONE, LOCAL))

    def test_words_and_tickets_are_no_locals(self):
        self.assert_wrong(("set", "i", ONE), USE)
        self.assert_wrong(("start", "i", (USE,)), ("await", "i"))
        self.assert_right(("set", "i", ONE), ("set", "a", ("word", "i")))
        self.assert_right(("each", "i", ("word", "i"), (("set", "i", ("do", "+", LOCAL, ("word", "i"))),)))

    def test_two_with_one_local_within_one_another(self):
        self.assert_right(("each", "i", ONE, (("each", "i", LOCAL, (USE,)), USE)))
        self.assert_right(("each", "i", ONE, (("fold", "a", "+", "i", LOCAL, LOCAL), USE)))
        self.assert_wrong(("each", "i", LOCAL, (("each", "i", LOCAL, (USE,)),)))
        self.assert_wrong(("each", "i", ONE, (("each", "i", LOCAL, (USE,)), USE)), USE)

    def test_two_locals_within_one_another(self):
        both = ("set", "a", ("do", "-", ("local", "i"), ("local", "k")))
        self.assert_right(("each", "i", ONE, (("each", "k", LOCAL, (both,)),)))
        self.assert_wrong(("each", "i", ONE, (("each", "k", ("local", "k"), (both,)),)))
        self.assert_wrong(("each", "i", ONE, (("each", "k", ONE, (both,)), both)))
        self.assert_wrong(("each", "i", ONE, (("each", "k", ONE, ()), ("set", "a", ("local", "k")))))
        self.assert_right(("each", "i", ONE, (("fold", "a", "+", "k", LOCAL, both[2]),)))
        self.assert_wrong(("each", "i", ONE, (("fold", "a", "+", "k", both[2], LOCAL),)))


class Awaits(Placed):
    def test_behind_a_start_in_the_same_block(self):
        self.assert_right(START, AWAIT)
        self.assert_right(START, SET, SET, AWAIT, AWAIT)
        self.assert_right(("start", "t", (SET, USE_OTHER)), AWAIT)
        for around in statements_around((START, AWAIT)):
            self.assert_right(around)

    def test_not_ahead_of_the_start(self):
        self.assert_wrong(AWAIT)
        self.assert_wrong(AWAIT, START)
        self.assert_wrong(AWAIT, START, AWAIT)
        self.assert_wrong(SET, AWAIT, START)
        for around in statements_around((AWAIT,)):
            self.assert_wrong(around)
            self.assert_wrong(around, START)
        for around in statements_around((AWAIT, START)):
            self.assert_wrong(around)

    def test_another_ticket(self):
        for ticket in ("u", "tt", "a"):
            self.assert_wrong(("start", ticket, ()), AWAIT)
        self.assert_wrong(("set", "t", ONE), AWAIT)
        self.assert_wrong(("each", "t", ONE, (AWAIT,)))
        self.assert_right(("start", "u", ()), START, ("start", "v", ()), AWAIT, ("await", "v"), ("await", "u"))

    def test_behind_a_start_in_a_block_around(self):
        for around in statements_around((AWAIT,)):
            self.assert_right(START, around)
            self.assert_right(START, SET, around, AWAIT)
            for farther in statements_around((SET, around)):
                self.assert_right(START, farther)
                self.assert_wrong(farther, START)
            for farther in statements_around((START, around)):
                self.assert_right(farther)
            for farther in statements_around((around, START)):
                self.assert_wrong(farther)

    def test_not_within_the_own_block_of_the_start(self):
        self.assert_wrong(("start", "t", (AWAIT,)))
        self.assert_wrong(("start", "t", (AWAIT,)), AWAIT)
        for around in statements_around((AWAIT,)):
            self.assert_wrong(("start", "t", (around,)))
        self.assert_wrong(("start", "t", (("start", "u", (AWAIT,)), ("await", "u"))))
        self.assert_right(("start", "u", ()), ("start", "t", (("await", "u"),)), AWAIT)

    def test_within_the_block_of_the_start_where_another_one_stands(self):
        self.assert_right(START, ("start", "t", (AWAIT,)))
        self.assert_right(START, ("start", "t", (AWAIT,)), AWAIT)
        self.assert_right(("start", "t", (START, AWAIT)))
        self.assert_wrong(("start", "t", (AWAIT, START)))
        self.assert_wrong(("start", "t", (("start", "t", (AWAIT,)),)))

    def test_not_by_a_start_in_the_block_of_another_statement(self):
        for around in statements_around((START,)):
            self.assert_wrong(around, AWAIT)
            for other in statements_around((AWAIT,)):
                self.assert_wrong(around, other)
            self.assert_right(START, around, AWAIT)
        self.assert_wrong(("fork", ((START,), (AWAIT,))))
        self.assert_wrong(("if", ONE, (START,), (AWAIT,)))
        self.assert_wrong(("start", "u", (START,)), AWAIT)

    def test_a_ticket_started_again(self):
        self.assert_right(START, START, AWAIT)
        self.assert_right(START, AWAIT, START, AWAIT)
        self.assert_right(START, ("if", ONE, (START, AWAIT), (AWAIT,)), AWAIT)


USE_OTHER = ("add", "b", "*", ("word", "a"))


if __name__ == "__main__":
    unittest.main()
