"""Point [25]: values as texts, and texts as values."""

import itertools
import random
import re
import unittest

from forkspan.errors import InvalidText
from forkspan.graphs import graph_of
from forkspan.told import told, untold
from tests.drawn import Draw, drawn_programs
from tests.samples import deep, with_few_calls

PLAIN = "".join([chr(number) for number in range(32, 127) if chr(number) not in '"%'])

EXAMPLES = (
    (0, "0"), (7, "7"), (10, "10"), (-1, "-1"), (-10, "-10"), (999999999, "999999999"), (-999999999, "-999999999"),
    ("", '""'), ("a", '"a"'), (" ", '" "'), ("a,b", '"a,b"'), ("(1,)", '"(1,)"'), ("-0", '"-0"'), ("it's", '"it\'s"'),
    ("\\", '"\\"'), ("\\n", '"\\n"'), (PLAIN, '"' + PLAIN + '"'),
    ((), "()"), ((1,), "(1,)"), ((1, 2), "(1,2)"), (("a",), '("a",)'), (("a", ""), '("a","")'), ((1, 2, 3), "(1,2,3)"),
    (((),), "((),)"), (((), ()), "((),())"), (((1,),), "((1,),)"), (((1, 2), (3,)), "((1,2),(3,))"),
    ((-1, (0, -1), "x y"), '(-1,(0,-1),"x y")'), (("least", ((), (0,)), 2, 2), '("least",((),(0,)),2,2)'),
)

NUMBER = re.compile("0|-?[1-9][0-9]{0,8}")
STRING = re.compile('"[ !#$&-~]*"')


def is_beginning(text):
    """Whether some right text begins with this one, and whether this is one; by trying all that may come next."""
    # What may stand at the next place: a value, the end of a value within tuples told by their numbers of parts.
    states = {("value", ())}
    for sign in text:
        states = set().union(*[following(state, sign) for state in states])
    return bool(states), any([is_end(state) for state in states])


def following(state, sign):
    """All states behind a sign. A state is (kind, numbers of parts of the tuples around), kind what has begun."""
    kind, around = state
    found = set()
    figure = sign in "0123456789"
    if kind == "value" or kind == "value or end":
        if sign == "(" and len(around) < 60:
            found.add(("value or end", around + (0,)))
        if sign == '"':
            found.add(("string", around))
        if sign == "-":
            found.add(("minus", around))
        if figure:
            found.add(("zero" if sign == "0" else "figures 1", around))
        if sign == ")" and kind == "value or end":
            found.add(("end", around[:-1]))
        return found
    if kind == "string":
        return {("end", around)} if sign == '"' else {state} if sign in PLAIN else set()
    if kind == "minus":
        return {("figures 1", around)} if figure and sign != "0" else set()
    if kind.startswith("figures") and figure:
        many = int(kind.split()[1]) + 1
        return {(f"figures {many}", around)} if many <= 9 else set()
    # A value has ended, whose tuple has one part more.
    if around and sign == ",":
        parts = around[-1] + 1
        return {("value or end" if parts == 1 else "value", around[:-1] + (parts,))}
    if around and sign == ")" and around[-1] > 0:
        return {("end", around[:-1])}
    return set()


def is_end(state):
    kind, around = state
    return not around and (kind in ("end", "zero") or kind.startswith("figures"))


def drawn_value(numbers, depth):
    kind = numbers.randrange(4 if depth else 2)
    if kind == 0:
        return numbers.choice((0, 1, -1, 12, -120, 999999999, numbers.randrange(-10 ** 9 + 1, 10 ** 9)))
    if kind == 1:
        return "".join([numbers.choice(PLAIN) for _ in range(numbers.randrange(5))])
    return tuple([drawn_value(numbers, depth - 1) for _ in range(numbers.randrange(4))])


class Told(unittest.TestCase):
    def test_examples(self):
        for value, text in EXAMPLES:
            self.assertEqual(told(value), text)
            self.assertEqual(untold(text), value)
        self.assertEqual(told(value=(1,)), "(1,)")
        self.assertEqual(untold(text="(1,)"), (1,))

    def test_there_and_back(self):
        numbers = random.Random(1)
        for _ in range(1500):
            value = drawn_value(numbers, 4)
            self.assertEqual(untold(told(value)), value)
            if self.has_no_strings(value):
                self.assertEqual(told(value), repr(value).replace(", ", ","))

    def has_no_strings(self, value):
        return isinstance(value, int) or isinstance(value, tuple) and all([self.has_no_strings(part) for part in value])

    def test_programs_and_graphs(self):
        for program, words in drawn_programs(60):
            for value in (program, words, graph_of(program, words)):
                self.assertEqual(untold(told(value)), value)

    def test_kinds_stay_apart(self):
        self.assertIsInstance(untold("1"), int)
        self.assertIsInstance(untold('"1"'), str)
        self.assertIsInstance(untold("(1,)"), tuple)

    def test_sixty_tuples(self):
        value = deep(60, tuple)
        self.assertEqual(told(value), "(" * 60 + ")" + ",)" * 59)
        self.assertEqual(untold(told(value)), value)
        self.assertEqual(with_few_calls(untold, with_few_calls(told, value)), value)
        self.assertEqual(with_few_calls(told, deep(150, tuple)).count("("), 150)
        text = "(" * 60 + "7" + ",)" * 60
        self.assertEqual(told(untold(text)), text)


class Untold(unittest.TestCase):
    def assert_wrong(self, text, at):
        with self.assertRaises(InvalidText) as caught:
            untold(text)
        self.assertEqual((caught.exception.text, caught.exception.at), (text, at), text)

    def test_what_ends_too_early(self):
        for text in ("", "-", '"', '"ab', "(", "(1", "(1,", "(1,2", "(1,2,", "((),", "(()", '("', '("a"', "(-", "(1,-", "((1,2)"):
            self.assert_wrong(text, len(text))

    def test_numbers(self):
        for text, at in (
            ("00", 1), ("01", 1), ("-0", 1), ("-01", 1), ("--1", 1), ("+1", 0), ("1-", 1), ("1.0", 1), ("1e3", 1), ("1_0", 1),
            ("1234567890", 9), ("-1234567890", 10), ("(1234567890,)", 10), ("0000000001", 1), ("(00,)", 2), ("(-0,)", 2), ("1 ", 1),
            (" 1", 0), ("1\n", 1), ("\n1", 0), ("\u0661", 0), ("1\u0661", 1), ("\u00b2", 0), ("0x1", 1), ("(1,00)", 4), ("-a", 1),
        ):
            self.assert_wrong(text, at)

    def test_strings(self):
        for text, at in (
            ('"%"', 1), ('"a%"', 2), ('"a\n"', 2), ('"\t"', 1), ('"\x7f"', 1), ('"\u00e4"', 1), ('"\ud800"', 1), ('"a""', 3), ('"a"b', 3),
            ('"a" ', 3), ("'a'", 0), ("a", 0), ('a"', 0), ('("a""b")', 4), ('("a" ,)', 4), ('"\x00"', 1), ('"a\\""', 4),
        ):
            self.assert_wrong(text, at)

    def test_tuples(self):
        for text, at in (
            (")", 0), ("())", 2), ("(,)", 1), ("(1)", 2), ("(1,,)", 3), ("(1,2,)", 5), ("(1,2,3,)", 7), ("(1 ,)", 2), ("( )", 1),
            ("(1, 2)", 3), ("(1,)(", 4), ("()()", 2), ("(),", 2), ("1,2", 1), ("1,", 1), ("[1]", 0), ("([1])", 1), ("(())", 3),
            ("((1),)", 3), ("(1,2))", 5), ("(1;2)", 2), ("(None,)", 1), ("(True,)", 1), ('("a")', 4), ("(()())", 3), ("(-,)", 2),
        ):
            self.assert_wrong(text, at)

    def test_too_many_tuples(self):
        self.assert_wrong("(" * 61, 60)
        self.assert_wrong("(" * 100, 60)
        self.assert_wrong("(" * 60 + "()" + ",)" * 60, 60)
        self.assert_wrong("(1," + "(" * 60 + ")", 62)
        self.assert_wrong("(" * 60, 60)
        # Of those side by side only one counts at a time.
        text = "(" + ",".join(["()"] * 100) + ")"
        self.assertEqual(untold(text), ((),) * 100)

    def test_each_change_of_a_right_text(self):
        signs = "01-,()\" %a\n"
        for text in ("(-12,(\"a\",),())", "()", "120", '("x",-5)', "((1,2),(0,))", "1234567890", "-90", '"a(1"'):
            for at in range(len(text) + 1):
                for sign in signs:
                    self.assert_as_tried(text[:at] + sign + text[at:])
                    self.assert_as_tried(text[:at] + sign + text[at + 1:])
                self.assert_as_tried(text[:at])
                self.assert_as_tried(text[:at] + text[at + 1:])

    def test_all_short_texts(self):
        for many in range(6):
            for signs in itertools.product('0-(),"', repeat=many):
                self.assert_as_tried("".join(signs))

    def test_drawn_texts(self):
        numbers = random.Random(2)
        for _ in range(2000):
            self.assert_as_tried("".join([numbers.choice('(),"-019 a%') for _ in range(numbers.randrange(12))]))

    def assert_as_tried(self, text):
        """The place is the first one at which no right text goes on, or the length; otherwise the text is told."""
        wrong = [at for at in range(len(text)) if not is_beginning(text[:at + 1])[0]]
        if wrong:
            self.assert_wrong(text, wrong[0])
        elif not is_beginning(text)[1]:
            self.assert_wrong(text, len(text))
        else:
            self.assertEqual(told(untold(text)), text)

    def test_the_forms_of_numbers_and_strings(self):
        draw = Draw(3)
        for _ in range(1000):
            text = "".join([draw.pick('0019-') for _ in range(draw.random.randrange(12))])
            quoted = '"' + "".join([draw.pick('a %"~') for _ in range(draw.random.randrange(4))]) + '"'
            for told_text, form in ((text, NUMBER), (quoted, STRING)):
                if form.fullmatch(told_text):
                    self.assertEqual(told(untold(told_text)), told_text)
                else:
                    with self.assertRaises(InvalidText):
                        untold(told_text)


if __name__ == "__main__":
    unittest.main()
