"""Point [6]: the texts of programs, read and written."""

import unittest

from forkspan.errors import InvalidProgram
from forkspan.programs import is_program
from forkspan.programtext import program_text, read_program
from forkspan.words import PRIME
from tests.drawn import drawn_programs
from tests.marked import Marked
from tests.samples import NO_TUPLES, RIGHT_NAMES, with_few_calls

A, B, ONE, LOCAL = ("word", "a"), ("word", "b"), ("number", 1), ("local", "i")

DOCUMENT = "a=b+1;a max=3;if a<b{c=1}{};each i<3{s+=$i};fold s + i<(a+1)*2:$i-a;start t{};await t"
DOCUMENT_PROGRAM = (
    ("set", "a", ("do", "+", B, ONE)),
    ("add", "a", "max", ("number", 3)),
    ("if", ("do", "<", A, B), (("set", "c", ONE),), ()),
    ("each", "i", ("number", 3), (("add", "s", "+", LOCAL),)),
    ("fold", "s", "+", "i", ("do", "*", ("do", "+", A, ONE), ("number", 2)), ("do", "-", LOCAL, A)),
    ("start", "t", ()),
    ("await", "t"),
)

# Each form, with the blanks that stand in it.
TEXTS = {
    "": (),
    "a=0": (("set", "a", ("number", 0)),),
    "abcdefgh=1000002": (("set", "abcdefgh", ("number", PRIME - 1)),),
    "a=999999": (("set", "a", ("number", 999999)),),
    "a=b": (("set", "a", B),),
    "a=a=b": (("set", "a", ("do", "=", A, B)),),
    "a+=1": (("add", "a", "+", ONE),),
    "a*=1": (("add", "a", "*", ONE),),
    "a max=1": (("add", "a", "max", ONE),),
    "a min=1": (("add", "a", "min", ONE),),
    "a=b+1": (("set", "a", ("do", "+", B, ONE)),),
    "a=b-1": (("set", "a", ("do", "-", B, ONE)),),
    "a=b*1": (("set", "a", ("do", "*", B, ONE)),),
    "a=b<1": (("set", "a", ("do", "<", B, ONE)),),
    "a=b=1": (("set", "a", ("do", "=", B, ONE)),),
    "a=b max 1": (("set", "a", ("do", "max", B, ONE)),),
    "a=1 min b": (("set", "a", ("do", "min", ONE, B)),),
    "a=(a max b) min (1+b)": (("set", "a", ("do", "min", ("do", "max", A, B), ("do", "+", ONE, B))),),
    "a=(a-b)-1": (("set", "a", ("do", "-", ("do", "-", A, B), ONE)),),
    "a=a-(b-1)": (("set", "a", ("do", "-", A, ("do", "-", B, ONE))),),
    "a=((a+b)*1)=(1<(b+a))": (("set", "a", ("do", "=", ("do", "*", ("do", "+", A, B), ONE),
                                           ("do", "<", ONE, ("do", "+", B, A)))),),
    "if a{}{}": (("if", A, (), ()),),
    "if a max 1{a=1}{b=1;a=1}": (("if", ("do", "max", A, ONE), (("set", "a", ONE),),
                                 (("set", "b", ONE), ("set", "a", ONE))),),
    "fork{}": (("fork", ((),)),),
    "fork{}{a=1}{}{a=1;a=1}": (("fork", ((), (("set", "a", ONE),), (), (("set", "a", ONE),) * 2)),),
    "each i<a{}": (("each", "i", A, ()),),
    "each i<a<1{a=$i}": (("each", "i", ("do", "<", A, ONE), (("set", "a", LOCAL),)),),
    "each i<1{each k<$i{a=$i*$k}}": (("each", "i", ONE, (("each", "k", LOCAL, (
        ("set", "a", ("do", "*", LOCAL, ("local", "k"))),)),)),),
    "fold a + i<1:b": (("fold", "a", "+", "i", ONE, B),),
    "fold a - i<1:$i": (("fold", "a", "-", "i", ONE, LOCAL),),
    "fold a * i<1:1": (("fold", "a", "*", "i", ONE, ONE),),
    "fold a max i<b max 1:$i max 1": (("fold", "a", "max", "i", ("do", "max", B, ONE), ("do", "max", LOCAL, ONE)),),
    "fold a min i<1<b:$i<b": (("fold", "a", "min", "i", ("do", "<", ONE, B), ("do", "<", LOCAL, B)),),
    "start t{}": (("start", "t", ()),),
    "start t{start t{};await t};await t": (("start", "t", (("start", "t", ()), ("await", "t"))), ("await", "t")),
    "start t{};fork{await t}": (("start", "t", ()), ("fork", ((("await", "t"),),))),
    # A name, a local and a ticket may be one word, and begin with a word that may be none.
    "each t<t{start t{t=$t};await t}": (("each", "t", ("word", "t"), (
        ("start", "t", (("set", "t", ("local", "t")),)), ("await", "t"))),),
    "maxi=mini max forks": (("set", "maxi", ("do", "max", ("word", "mini"), ("word", "forks"))),),
    "iffy min=awaits": (("add", "iffy", "min", ("word", "awaits")),),
    DOCUMENT: DOCUMENT_PROGRAM,
}


class Texts(unittest.TestCase):
    def assert_pair(self, text, program):
        self.assertEqual(read_program(text), program)
        self.assertEqual(program_text(program), text)

    def test_each_form(self):
        for text, program in TEXTS.items():
            with self.subTest(text):
                self.assertTrue(is_program(program))
                self.assert_pair(text, program)

    def test_by_name(self):
        self.assertEqual(read_program(text="a=1"), (("set", "a", ONE),))
        self.assertEqual(program_text(program=(("set", "a", ONE),)), "a=1")

    def test_all_forms_behind_one_another_and_within_one_another(self):
        for text, program in TEXTS.items():
            if not text:
                continue
            self.assert_pair("a=1;" + text + ";b=1", (("set", "a", ONE),) + program + (("set", "b", ONE),))
            self.assert_pair("if 1{" + text + "}{" + text + "}", (("if", ONE, program, program),))
            self.assert_pair("fork{}{" + text + "}", (("fork", ((), program)),))
            self.assert_pair("each z<1{" + text + "}", (("each", "z", ONE, program),))
            self.assert_pair("start z{" + text + "}", (("start", "z", program),))

    def test_all_right_names(self):
        for name in RIGHT_NAMES:
            self.assert_pair(name + "=" + name, (("set", name, ("word", name)),))
            self.assert_pair("each " + name + "<1{a=$" + name + "}",
                             (("each", name, ONE, (("set", "a", ("local", name)),)),))
            self.assert_pair("start " + name + "{};await " + name, (("start", name, ()), ("await", name)))
            self.assert_pair("fold " + name + " max " + name + "<1:$" + name,
                             (("fold", name, "max", name, ONE, ("local", name)),))

    def test_all_values_by_their_figures(self):
        for value in (0, 1, 9, 10, 99, 100, 1000, 65536, 100000, 999999, 1000000, PRIME - 1):
            self.assert_pair("a=" + str(value), (("set", "a", ("number", value)),))

    def test_drawn_programs(self):
        for program, _ in drawn_programs(300):
            text = program_text(program)
            self.assertEqual(text, Marked(program).text)
            self.assertEqual(read_program(text), program)
            self.assertEqual(program_text(program), text)

    def test_no_program(self):
        for value in NO_TUPLES + ((1,), (("await", "t"),), (("set", "a", LOCAL),), (("set", "max", ONE),), ("set",)):
            with self.assertRaises(InvalidProgram) as caught:
                program_text(value)
            self.assertEqual(caught.exception.value, value)
            self.assertIs(type(caught.exception.value), type(value))


class DeepTexts(unittest.TestCase):
    WRAPS = (
        ("if 1{", "}{}", lambda block: (("if", ONE, block, ()),)),
        ("if 1{}{", "}", lambda block: (("if", ONE, (), block),)),
        ("fork{", "}", lambda block: (("fork", (block,)),)),
        ("each i<1{", "}", lambda block: (("each", "i", ONE, block),)),
        ("start t{", "}", lambda block: (("start", "t", block),)),
    )

    def test_forty_blocks_within_one_another(self):
        for ahead, behind, wrap in self.WRAPS:
            program = (("set", "a", ONE),)
            for _ in range(40):
                program = wrap(program)
            text = ahead * 40 + "a=1" + behind * 40
            self.assertEqual(with_few_calls(read_program, text), program)
            self.assertEqual(with_few_calls(program_text, program), text)

    def test_forty_brackets_within_one_another(self):
        left = right = ONE
        for _ in range(40):
            left = ("do", "max", left, A)
            right = ("do", "-", A, right)
        for text, expression in (
            ("a=" + "(" * 40 + "1" + " max a)" * 40 + "+1", ("do", "+", left, ONE)),
            ("a=1<" + "(a-" * 40 + "1" + ")" * 40, ("do", "<", ONE, right)),
        ):
            self.assertEqual(with_few_calls(read_program, text), (("set", "a", expression),))
            self.assertEqual(with_few_calls(program_text, (("set", "a", expression),)), text)

    def test_programs_much_deeper_than_texts(self):
        program = ()
        for _ in range(3000):
            program = (("fork", (program,)),)
        self.assertEqual(with_few_calls(program_text, program), "fork{" * 3000 + "}" * 3000)


if __name__ == "__main__":
    unittest.main()
