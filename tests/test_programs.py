"""Point [5]: the form of programs, and their words."""

import unittest

from forkspan.errors import InvalidProgram
from forkspan.programs import is_program, words_of
from forkspan.words import PRIME
from tests.samples import (
    KEYWORDS, NEVER, NO_TUPLES, RIGHT_NAMES, WRONG_NAMES, changed, deep, part_at, paths,
)

ONE = ("number", 1)
READ_A = ("word", "a")
SET = ("set", "a", ONE)
OPS = {
    "do": ("+", "-", "*", "max", "min", "<", "="),
    "add": ("+", "*", "max", "min"),
    "fold": ("+", "-", "*", "max", "min"),
}
NO_OPS = NEVER + ("/", "//", "**", "==", "<=", ">", "!", "++", "+=", "max=", "MAX", "mod", "a", "and", (), ("+",), ["+"])

# A program of each form, and which kind of part stands behind its first one.
STATEMENTS = {
    "set": (SET, ("name", "expression")),
    "add": (("add", "a", "+", ONE), ("name", "op", "expression")),
    "if": (("if", READ_A, (SET,), ()), ("expression", "block", "block")),
    "fork": (("fork", ((SET,), ())), ("blocks",)),
    "each": (("each", "i", ONE, (SET,)), ("name", "expression", "block")),
    "fold": (("fold", "a", "-", "i", ONE, ONE), ("name", "op", "name", "expression", "expression")),
    "start": (("start", "t", (SET,)), ("name", "block")),
}
EXPRESSIONS = {
    "number": (ONE, ("value",)),
    "word": (READ_A, ("name",)),
    "do": (("do", "+", READ_A, ONE), ("op", "expression", "expression")),
}
NO_EXPRESSIONS = NEVER + (
    (), 0, 1, "a", "1", SET, (ONE,), (SET,), ("number",), ("number", 1, 1), ("number", "1"), ("number", (1,)),
    ("number", True), ("number", None), ("number", -1), ("number", PRIME), ("number", 10 ** 20), ("number", ONE),
    ("word",), ("word", "a", "b"), ("word", "if"), ("word", 1), ("word", READ_A), ("local", "x"), ("local",),
    ("do",), ("do", "+"), ("do", "+", ONE), ("do", "+", ONE, ONE, ONE), ("do", ONE, ONE), ("do", ONE, "+", ONE),
    ("+", ONE, ONE), ("value", 1), ("Number", 1), ("number ", 1), ("", 1), (["number"], 1), (("number",), 1),
    (1, "number"), (None, 1), (True, 1), ["number", 1], ["word", "a"], ["do", "+", ONE, ONE],
)
NO_BLOCKS = NEVER + (
    0, 1, "a", "set", SET, ONE, [SET], [(SET,)], ((SET,),), ((),), (ONE,), (None,), (0,), ("set",), (SET, None),
    (list(SET),), (SET, list(SET)), (SET, SET, ()), ("set", "a"),
)
WRONG_PARTS = {
    "name": WRONG_NAMES,
    "op": NO_OPS,
    "value": NEVER + ("a", "1", (), (1,), ONE, PRIME + 5, -5),
    "expression": NO_EXPRESSIONS,
    "block": NO_BLOCKS,
    "blocks": NEVER + (
        (), 0, 1, "a", SET, (SET,), [()], [(SET,)], ((), (), (), (), ()), ((SET,),) * 5, ([],), ((), []), ((), None),
        ((SET,), SET), ((), (), (), 0),
    ),
}

ALL_FORMS = (
    ("set", "a", ("number", 0)),
    ("set", "b", ("number", PRIME - 1)),
    ("add", "a", "max", ("word", "abcdefgh")),
    ("if", ("do", "<", READ_A, ("word", "b")), (SET, ("if", READ_A, (), (SET,))), ()),
    ("fork", ((), (SET,), (("fork", ((SET,),)),), (("start", "inner", ()), ("await", "inner")))),
    ("each", "i", ("do", "*", ("number", 3), READ_A), (
        ("each", "k", ("local", "i"), (("set", "c", ("do", "=", ("local", "i"), ("local", "k"))),)),
    )),
    ("fold", "d", "-", "i", ("do", "min", READ_A, ONE), ("do", "-", ("local", "i"), ("word", "e"))),
    ("start", "t", (("start", "t", (SET,)), ("await", "t"))),
    ("await", "t"),
)


def with_expression(expression):
    """Programs in which an expression stands, at each place where one may stand."""
    return (
        (("set", "a", expression),),
        (SET, ("add", "a", "+", expression)),
        (("if", expression, (), ()),),
        (("each", "k", expression, ()),),
        (("fold", "a", "+", "k", expression, ONE),),
        (("fold", "a", "+", "k", ONE, expression),),
        (("set", "a", ("do", "+", expression, ONE)),),
        (("set", "a", ("do", "+", ("do", "<", ONE, expression), ONE)),),
    )


def nested_expression(depth):
    expression = ONE
    for _ in range(depth):
        expression = ("do", "+", expression, READ_A)
    return expression


def nested_block(depth):
    block = (SET,)
    for _ in range(depth):
        block = (("if", ONE, (), block),)
    return block


class RightPrograms(unittest.TestCase):
    def assert_program(self, value):
        self.assertIs(is_program(value), True, value)

    def test_each_form_and_all_together(self):
        self.assert_program(())
        for statement, _ in STATEMENTS.values():
            self.assert_program((statement,))
            self.assert_program((statement, SET, statement))
        for statement in ALL_FORMS[:-1]:
            self.assert_program((statement,))
        self.assert_program(ALL_FORMS)
        self.assertIs(is_program(value=ALL_FORMS), True)

    def test_each_expression_in_each_place(self):
        for expression in (("number", 0), ("number", PRIME - 1), READ_A, ("do", "=", READ_A, ("do", "<", ONE, ONE))):
            for program in with_expression(expression):
                self.assert_program(program)

    def test_each_op_in_each_place(self):
        for op in OPS["do"]:
            self.assert_program((("set", "a", ("do", op, ONE, ONE)),))
        for op in OPS["add"]:
            self.assert_program((("add", "a", op, ONE),))
        for op in OPS["fold"]:
            self.assert_program((("fold", "a", op, "i", ONE, ONE),))

    def test_each_name_in_each_place(self):
        for name in RIGHT_NAMES:
            self.assert_program((
                ("set", name, ("word", name)),
                ("add", name, "+", ONE),
                ("each", name, ONE, (("set", "a", ("local", name)),)),
                ("fold", name, "+", name, ONE, ("local", name)),
                ("start", name, ()),
                ("await", name),
            ))

    def test_one_to_four_blocks(self):
        for many in (1, 2, 3, 4):
            self.assert_program((("fork", ((),) * many),))
            self.assert_program((("fork", ((SET, SET),) * many),))

    def test_forms_within_one_another(self):
        for outer in (
            lambda block: ("if", ONE, block, ()),
            lambda block: ("if", ONE, (), block),
            lambda block: ("fork", (block,)),
            lambda block: ("fork", ((), (), (), block)),
            lambda block: ("each", "i", ONE, block),
            lambda block: ("start", "t", block),
        ):
            for statement, _ in STATEMENTS.values():
                self.assert_program((outer((statement, statement)),))
                self.assert_program((outer((outer((statement,)), SET)),))

    def test_deep_and_long_programs(self):
        for depth in (6, 29, 60, 100):
            self.assert_program(nested_block(depth))
            self.assert_program((("set", "a", nested_expression(depth)),))
        self.assert_program((SET,) * 1000)


class WrongPrograms(unittest.TestCase):
    def assert_none(self, value):
        self.assertIs(is_program(value), False, value)

    def test_a_wrong_part_in_place_of_each_part_of_each_form(self):
        for statement, kinds in STATEMENTS.values():
            for place, kind in enumerate(kinds, start=1):
                for wrong in WRONG_PARTS[kind]:
                    self.assert_none((changed(statement, (place,), wrong),))
                    self.assert_none((SET, ("if", ONE, (changed(statement, (place,), wrong),), ())))
        for expression, kinds in EXPRESSIONS.values():
            for place, kind in enumerate(kinds, start=1):
                for wrong in WRONG_PARTS[kind]:
                    for program in with_expression(changed(expression, (place,), wrong)):
                        self.assert_none(program)

    def test_no_expression_in_each_place(self):
        for wrong in NO_EXPRESSIONS:
            for program in with_expression(wrong):
                self.assert_none(program)

    def test_wrong_names_of_awaits_and_locals(self):
        for name in WRONG_NAMES:
            self.assert_none((("start", name, ()), ("await", name)))
            self.assert_none((("each", name, ONE, (("set", "a", ("local", name)),)),))
            self.assert_none((("fold", "a", "+", name, ONE, ("local", name)),))

    def test_a_part_left_out_or_one_too_many(self):
        everything = dict(STATEMENTS, **{"await": (("await", "t"), ("name",))})
        for statement, _ in everything.values():
            for place in range(len(statement)):
                self.assert_none((("start", "t", ()), statement[:place] + statement[place + 1:]))
            for more in (0, 1, "a", None, (), ONE, (SET,), "+"):
                for place in range(len(statement) + 1):
                    self.assert_none((("start", "t", ()), statement[:place] + (more,) + statement[place:]))
        for expression, _ in EXPRESSIONS.values():
            for place in range(len(expression)):
                for program in with_expression(expression[:place] + expression[place + 1:]):
                    self.assert_none(program)
            for more in (0, 1, "a", None, (), ONE):
                for place in range(len(expression) + 1):
                    for program in with_expression(expression[:place] + (more,) + expression[place:]):
                        self.assert_none(program)

    def test_a_list_in_place_of_each_tuple(self):
        for path in paths(ALL_FORMS):
            part = part_at(ALL_FORMS, path)
            if isinstance(part, tuple):
                self.assert_none(changed(ALL_FORMS, path, list(part)))

    def test_what_never_may_stand_in_each_place(self):
        for path in paths(ALL_FORMS):
            for wrong in NEVER:
                self.assert_none(changed(ALL_FORMS, path, wrong))

    def test_keywords_are_no_names(self):
        for word in KEYWORDS:
            self.assert_none((("set", word, ONE),))
            self.assert_none((("add", word, "+", ONE),))
            self.assert_none((("set", "a", ("word", word)),))
            self.assert_none((("each", word, ONE, ()),))
            self.assert_none((("fold", word, "+", "i", ONE, ONE),))
            self.assert_none((("fold", "a", "+", word, ONE, ONE),))
            self.assert_none((("start", word, ()),))

    def test_ops_of_other_forms(self):
        for op in OPS["do"]:
            if op not in OPS["add"]:
                self.assert_none((("add", "a", op, ONE),))
            if op not in OPS["fold"]:
                self.assert_none((("fold", "a", op, "i", ONE, ONE),))

    def test_unknown_forms(self):
        for head in NEVER + KEYWORDS + ("Set", "set ", "", "number", "word", "do", "local", "join", "deed", 0, (), SET):
            self.assert_none(((head,),))
            self.assert_none(((head, "a", ("word", "b")),))
            self.assert_none(((head, "a", ONE, ONE),))

    def test_none_or_more_than_four_blocks(self):
        for many in (0, 5, 6, 50):
            self.assert_none((("fork", ((),) * many),))
            self.assert_none((("fork", ((SET,),) * many),))
        self.assert_none((("fork", (), ()),))

    def test_what_is_no_tuple_of_statements(self):
        for value in NO_TUPLES + NO_BLOCKS + (deep(2, tuple), deep(60, tuple), deep(200, tuple)):
            self.assert_none(value)

    def test_wrong_parts_far_within(self):
        for depth in (6, 29, 60, 100):
            expression = ("do", "+", nested_expression(depth), ["number", 1])
            self.assert_none((("set", "a", expression),))
            self.assert_none((("set", "a", ("do", "-", deep(depth, tuple), ONE)),))
            self.assert_none((("set", "a", ("do", "-", deep(depth, list), ONE)),))
            self.assert_none((("if", ONE, nested_block(depth), ()), None))
        block = ((None,),)
        for _ in range(30):
            block = (("if", ONE, (), block),)
        self.assert_none(block)


class WordsOf(unittest.TestCase):
    def test_each_place_of_a_name(self):
        self.assertEqual(words_of(()), ())
        self.assertEqual(words_of((("set", "x", ONE),)), ("x",))
        self.assertEqual(words_of((("add", "x", "+", ONE),)), ("x",))
        self.assertEqual(words_of((("fold", "x", "+", "i", ONE, ONE),)), ("x",))
        self.assertEqual(words_of((("if", ONE, (), ()),)), ())
        for program in with_expression(("word", "q")):
            self.assertIn("q", words_of(program))

    def test_words_within_each_part(self):
        one, two, three = (("set", name, ("word", name + "r")) for name in ("b", "c", "a"))
        self.assertEqual(words_of((("if", ("word", "z"), (one,), (two, three)),)), ("a", "ar", "b", "br", "c", "cr", "z"))
        self.assertEqual(words_of((("fork", ((one,), (two,), (), (three,))),)), ("a", "ar", "b", "br", "c", "cr"))
        self.assertEqual(words_of((("each", "i", ("word", "z"), (one, two)),)), ("b", "br", "c", "cr", "z"))
        self.assertEqual(words_of((("start", "t", (three,)), ("await", "t"))), ("a", "ar"))
        fold = ("fold", "s", "+", "i", ("word", "y"), ("do", "<", ("word", "x"), ("local", "i")))
        self.assertEqual(words_of((fold,)), ("s", "x", "y"))

    def test_all_forms(self):
        self.assertEqual(words_of(ALL_FORMS), ("a", "abcdefgh", "b", "c", "d", "e"))
        self.assertEqual(words_of(program=ALL_FORMS), ("a", "abcdefgh", "b", "c", "d", "e"))

    def test_each_once_and_ascending(self):
        program = tuple(("set", name, ("do", "+", ("word", name), ("word", "m"))) for name in ("z", "a", "ab", "z", "b"))
        self.assertEqual(words_of(program), ("a", "ab", "b", "m", "z"))

    def test_no_locals_and_no_tickets(self):
        program = (
            ("each", "loc", ONE, (("set", "a", ("local", "loc")),)),
            ("fold", "b", "+", "fol", ONE, ("local", "fol")),
            ("start", "tick", ()),
            ("await", "tick"),
        )
        self.assertEqual(words_of(program), ("a", "b"))

    def test_invalid_program_keeps_its_value(self):
        for value in NO_TUPLES + ((None,), (("set", "a", 1),), (("await", "t"),), (("set", "a", ("local", "i")),)):
            with self.subTest(value=value):
                with self.assertRaises(InvalidProgram) as raised:
                    words_of(value)
                self.assertIs(raised.exception.value, value)


if __name__ == "__main__":
    unittest.main()
