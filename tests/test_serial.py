"""Points [8], [10] and [11]: the deeds of the serial run, and what they are, touch and work out."""

import unittest

from forkspan.errors import Undefined
from forkspan.programtext import read_program
from forkspan.serial import kind_of, result_of, serial_deeds, serial_end, touched_by
from forkspan.words import PRIME, is_words
from tests.drawn import drawn_programs
from tests.model import Model
from tests.refusals import Refusals
from tests.samples import with_few_calls

NOTHING = ((), (), ())


class Runs(unittest.TestCase):
    def assert_deeds(self, text, told, words=()):
        """told: pairs (name, kind) of all deeds, in serial order."""
        program = read_program(text)
        self.assertEqual(serial_deeds(program, words), tuple([name for name, _ in told]))
        for name, kind in told:
            self.assertEqual(kind_of(program, words, name), kind, name)

    def assert_end(self, text, end, words=()):
        self.assertEqual(serial_end(read_program(text), words), end)


class Names(Runs):
    def test_no_statement(self):
        self.assert_deeds("", ())
        self.assert_end("", ())
        self.assert_end("", (("c", 5),), (("c", 5),))

    def test_statements_of_one_deed(self):
        self.assert_deeds("a=1;a+=2;start t{};await t", (
            ((0,), "set"), ((1,), "add"), ((2,), "start"), ((3,), "await"),
        ))

    def test_if(self):
        self.assert_deeds("if a{b=1;c=1}{b=2}", (((0,), "if"), ((0, 1, 0), "set")))
        self.assert_deeds("if a{b=1;c=1}{b=2}", (((0,), "if"), ((0, 0, 0), "set"), ((0, 0, 1), "set")), (("a", 1),))
        self.assert_deeds("if a<1{}{b=2};c=1", (((0,), "if"), ((1,), "set")))
        for value in (1, 2, 7, PRIME - 1):
            self.assert_deeds("if a{}{b=1}", (((0,), "if"),), (("a", value),))

    def test_fork(self):
        self.assert_deeds("a=1;fork{b=1;b=2}{}{c=1}", (
            ((0,), "set"), ((1,), "fork"), ((1, 0, 0), "set"), ((1, 0, 1), "set"), ((1, 2, 0), "set"), ((1, -1), "join"),
        ))
        self.assert_deeds("fork{}", (((0,), "fork"), ((0, -1), "join")))
        self.assert_deeds("fork{fork{}{a=1}}", (
            ((0,), "fork"), ((0, 0, 0), "fork"), ((0, 0, 0, 1, 0), "set"), ((0, 0, 0, -1), "join"), ((0, -1), "join"),
        ))

    def test_each(self):
        self.assert_deeds("each i<2{a=1;a=2}", (
            ((0,), "each"), ((0, 0, 0), "set"), ((0, 0, 1), "set"), ((0, 1, 0), "set"), ((0, 1, 1), "set"),
            ((0, -1), "join"),
        ))
        self.assert_deeds("each i<0{a=1}", (((0,), "each"), ((0, -1), "join")))
        self.assert_deeds("each i<3{}", (((0,), "each"), ((0, -1), "join")))

    def test_each_as_often_as_the_value_modulo_7(self):
        for value, count in ((0, 0), (1, 1), (6, 6), (7, 0), (8, 1), (13, 6), (14, 0), (PRIME - 1, (PRIME - 1) % 7)):
            told = [((0,), "each")] + [((0, i, 0), "set") for i in range(count)] + [((0, -1), "join")]
            self.assert_deeds("each i<" + str(value) + "{a=1}", told)

    def test_start_at_once(self):
        self.assert_deeds("start t{a=1;b=1};c=1;await t", (
            ((0,), "start"), ((0, 0, 0), "set"), ((0, 0, 1), "set"), ((1,), "set"), ((2,), "await"),
        ))
        self.assert_deeds("fork{start t{a=1}}{start t{start t{b=1}};c=1};d=1", (
            ((0,), "fork"), ((0, 0, 0), "start"), ((0, 0, 0, 0, 0), "set"), ((0, 1, 0), "start"),
            ((0, 1, 0, 0, 0), "start"), ((0, 1, 0, 0, 0, 0, 0), "set"), ((0, 1, 1), "set"), ((0, -1), "join"),
            ((1,), "set"),
        ))

    def test_folds_by_halves(self):
        # Each pair just behind the two that it joins.
        orders = (
            (),
            ((0,),),
            ((0,), (1,), (0, 2)),
            ((0,), (1,), (2,), (1, 3), (0, 3)),
            ((0,), (1,), (0, 2), (2,), (3,), (2, 4), (0, 4)),
            ((0,), (1,), (0, 2), (2,), (3,), (4,), (3, 5), (2, 5), (0, 5)),
            ((0,), (1,), (2,), (1, 3), (0, 3), (3,), (4,), (5,), (4, 6), (3, 6), (0, 6)),
        )
        for count, order in enumerate(orders):
            told = [((1,) + part, "leaf" if len(part) == 1 else "pair") for part in order]
            told = [((0,), "set"), ((1,), "fold")] + told + [((1, -1), "keep"), ((2,), "set")]
            self.assert_deeds("b=1;fold a + i<" + str(count) + ":$i;c=1", told)
            self.assert_deeds("b=1;fold a + i<" + str(count + 7) + ":$i;c=1", told)

    def test_the_document_says(self):
        program = read_program("fork{a=1}{b=2};c=a+b")
        self.assertEqual(serial_end(program, (("c", 5),)), (("a", 1), ("b", 2), ("c", 3)))


class Ends(Runs):
    def test_sets_and_adds(self):
        self.assert_end("a=3;a+=b;b*=a", (("a", 7), ("b", 28)), (("b", 4),))
        self.assert_end("a max=5;a max=3;b min=2;c min=1", (("a", 5), ("b", 2)), (("b", 9),))
        self.assert_end("a=0-1;a+=2", (("a", 1),))
        self.assert_end("a=0;b=b-b", (), (("a", 1), ("b", 5)))
        self.assert_end("a+=1", (), (("a", PRIME - 1),))
        self.assert_end("a*=a", (("a", 4),), (("a", PRIME - 2),))

    def test_words_of_no_statement_stay(self):
        self.assert_end("b=1", (("a", 7), ("b", 1), ("z", 1)), (("a", 7), ("z", 1)))

    def test_expressions(self):
        for text, value in (
            ("a=7-9", PRIME - 2), ("a=1000002*1000002", 1), ("a=1000002+5", 4), ("a=3 max 8", 8), ("a=3 min 8", 3),
            ("a=(3<8)+(8<3)", 1), ("a=(3=3)+(3=4)", 1), ("a=(9-3)-2", 4), ("a=9-(3-2)", 8), ("a=2<2", 0), ("a=2<1", 0),
        ):
            self.assert_end(text, (("a", value),) if value else ())

    def test_locals(self):
        self.assert_end("each i<4{a+=$i}", (("a", 6),))
        self.assert_end("each i<4{a=$i*10}", (("a", 30),))
        self.assert_end("each i<3{each k<$i{a+=($i*10)+$k}}", (("a", 10 + 20 + 21),))
        self.assert_end("each i<3{if $i=1{fork{start t{a=$i}}}{}}", (("a", 1),))

    def test_the_innermost_of_several_with_one_local(self):
        self.assert_end("each i<2{each i<3{a+=$i};b+=$i}", (("a", 6), ("b", 1)))
        self.assert_end("each i<3{fold a + i<$i+1:$i;b+=a+$i}", (("a", 3), ("b", 0 + 1 + 3 + 0 + 1 + 2)))

    def test_folds(self):
        for text, value in (
            ("fold a + i<4:$i*$i", 14), ("fold a * i<4:$i+1", 24), ("fold a max i<4:$i*(3-$i)", 2),
            ("fold a min i<4:$i+5", 5), ("fold a - i<1:9", 9), ("fold a - i<2:$i+1", PRIME - 1),
            # By halves, so a difference of differences: 0 - (1 - 2), and (0 - 1) - (2 - 3).
            ("fold a - i<3:$i", 1), ("fold a - i<4:$i*$i", (0 - 1 - (4 - 9)) % PRIME),
            ("fold a - i<5:$i*$i", (0 - 1 - (4 - (9 - 16))) % PRIME),
            ("fold a - i<6:$i*$i", (0 - (1 - 4) - (9 - (16 - 25))) % PRIME),
        ):
            self.assert_end(text, (("a", value),))
            self.assert_end(text, (("a", value),), (("a", 77),))

    def test_an_empty_fold_sets_0(self):
        for op in ("+", "-", "*", "max", "min"):
            self.assert_end("fold a " + op + " i<b:9", (), (("a", 5),))
            self.assert_end("fold a " + op + " i<b:9", (("b", 7),), (("a", 5), ("b", 7)))

    def test_a_fold_reads_its_own_name_as_it_was(self):
        self.assert_end("fold a + i<3:a+$i", (("a", 33),), (("a", 10),))

    def test_a_started_block_is_done_at_once(self):
        self.assert_end("a=1;start t{a=2};b=a;await t", (("a", 2), ("b", 2)))


class Touches(Runs):
    def assert_touched(self, text, name, kind, touched, result, words=()):
        program = read_program(text)
        self.assertEqual(kind_of(program, words, name), kind)
        self.assertEqual(touched_by(program, words, name), touched)
        self.assertEqual(result_of(program, words, name), result)

    def test_each_kind(self):
        words = (("a", 2), ("b", 3))
        for text, name, kind, touched, result in (
            ("c=b+a", (0,), "set", (("a", "b"), ("c",), ()), 5),
            ("c=4", (0,), "set", ((), ("c",), ()), 4),
            ("a=a+a", (0,), "set", (("a",), ("a",), ()), 4),
            ("a+=b", (0,), "add", (("b",), (), (("a", "+"),)), 3),
            ("a*=b", (0,), "add", (("b",), (), (("a", "*"),)), 3),
            ("a max=b+a", (0,), "add", (("a", "b"), (), (("a", "max"),)), 5),
            ("c min=0", (0,), "add", ((), (), (("c", "min"),)), 0),
            ("if a<b{}{}", (0,), "if", (("a", "b"), (), ()), 1),
            ("if a=b{c=b}{}", (0,), "if", (("a", "b"), (), ()), 0),
            ("fork{c=a}", (0,), "fork", NOTHING, 0),
            ("fork{c=a}", (0, -1), "join", NOTHING, 0),
            ("each i<b+7{c=a}", (0,), "each", (("b",), (), ()), 10),
            ("each i<b+7{c=a}", (0, -1), "join", NOTHING, 0),
            ("each i<b{c=a+$i}", (0, 2, 0), "set", (("a",), ("c",), ()), 4),
            ("start t{c=a}", (0,), "start", NOTHING, 0),
            ("start t{c=a};await t", (1,), "await", NOTHING, 0),
            ("fold c - i<b+7:a*$i", (0,), "fold", (("b",), (), ()), 10),
            ("fold c - i<b+7:a*$i", (0, 2), "leaf", (("a",), (), ()), 4),
            ("fold c - i<b+7:a*$i", (0, 1, 3), "pair", NOTHING, PRIME - 2),
            ("fold c - i<b+7:a*$i", (0, 0, 3), "pair", NOTHING, 2),
            ("fold c - i<b+7:a*$i", (0, -1), "keep", ((), ("c",), ()), 2),
            ("fold a max i<1:b+a", (0, 0), "leaf", (("a", "b"), (), ()), 5),
            ("fold a max i<1:b+a", (0, -1), "keep", ((), ("a",), ()), 5),
            ("fold a + i<7:b", (0, -1), "keep", ((), ("a",), ()), 0),
        ):
            with self.subTest(text, name=name):
                self.assert_touched(text, name, kind, touched, result, words)

    def test_words_as_they_are_when_the_deed_is_done(self):
        self.assert_touched("a=1;a+=a;b=a", (1,), "add", (("a",), (), (("a", "+"),)), 1)
        self.assert_touched("a=1;a+=a;b=a", (2,), "set", (("a",), ("b",), ()), 2)

    def test_no_such_deed(self):
        program = read_program("if a{b=1}{};fork{c=1}{};each i<1{};fold d + i<3:1;start t{e=1}")
        names = serial_deeds(program, ())
        for name in (
            (), (5,), (-1,), (0, 0, 0), (0, 1, 0), (0, 0), (0, -1), (1, 0), (1, 1, 0), (1, 0, 1), (1, 0, 0, 0), (2, 0, 0),
            (3, 3), (3, 0, 2), (3, 0, 1), (3, 2, 3), (4, 0), (4, -1), (4, 0, 1), (1, -2), (7, 7, 7, 7), (10 ** 20,),
        ):
            self.assertNotIn(name, names)
            for function in (kind_of, touched_by, result_of):
                with self.assertRaises(Undefined) as caught:
                    function(program, (), name)
                self.assertEqual(caught.exception.what, "deed")
        # With other words there are other deeds.
        self.assertEqual(kind_of(program, (("a", 1),), (0, 0, 0)), "set")

    def test_by_name(self):
        program = read_program("a=1")
        self.assertEqual(serial_deeds(program=program, words=()), ((0,),))
        self.assertEqual(serial_end(program=program, words=()), (("a", 1),))
        self.assertEqual(kind_of(program=program, words=(), deed=(0,)), "set")
        self.assertEqual(touched_by(program=program, words=(), deed=(0,)), ((), ("a",), ()))
        self.assertEqual(result_of(program=program, words=(), deed=(0,)), 1)


class Errors(Refusals, unittest.TestCase):
    FUNCTIONS = (
        serial_deeds, serial_end,
        lambda program, words: kind_of(program, words, (9, 9)),
        lambda program, words: touched_by(program, words, (9, 9)),
        lambda program, words: result_of(program, words, (9, 9)),
    )


class Drawn(unittest.TestCase):
    def test_as_statement_by_statement(self):
        kinds = {}
        for program, words in drawn_programs(400):
            model = Model(program, words)
            deeds = serial_deeds(program, words)
            self.assertEqual(deeds, tuple(model.names))
            self.assertEqual(len(set(deeds)), len(deeds))
            self.assertEqual(serial_end(program, words), model.end())
            self.assertTrue(is_words(model.end()))
            for deed in deeds[:30]:
                kind = kind_of(program, words, deed)
                kinds[kind] = True
                self.assertEqual(kind, model.kinds[deed])
                self.assertEqual(touched_by(program, words, deed), model.touches[deed])
                self.assertEqual(result_of(program, words, deed), model.results[deed])
            self.assertEqual(serial_deeds(program, words), deeds)
        self.assertEqual(len(kinds), 12)

    def test_few_calls_in_the_deepest_programs(self):
        text = "if 1{" * 40 + "a=1" + "}{}" * 40 + ";b=1+" + "(1+" * 40 + "1" + ")" * 40
        program = read_program(text)
        self.assertEqual(with_few_calls(serial_end, program, ()), (("a", 1), ("b", 42)))
        self.assertEqual(len(with_few_calls(serial_deeds, program, ())), 42)


if __name__ == "__main__":
    unittest.main()
