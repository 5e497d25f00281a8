"""Point [26]: a desk, its lines and their answers, undo and redo, and desks replayed."""

import random
import unittest

from forkspan.claims import claim_holds, seal_claim
from forkspan.desk import Desk, replayed
from forkspan.errors import (
    InvalidLine, InvalidText, NothingToUndo, NotReady, SpanError, UnknownName,
)
from forkspan.graphs import graph_of
from forkspan.least import least
from forkspan.programtext import program_text, read_program
from forkspan.races import first_race, is_calm
from forkspan.runs import picked_run, run_plan
from forkspan.serial import serial_end
from forkspan.stealing import stolen_run
from forkspan.told import told, untold
from forkspan.words import PRIME
from tests.drawn import drawn_forks
from tests.samples import KEYWORDS, with_few_calls

FORK = "fork{a=1}{b=2};c=a+b"
RACY = "fork{a=1}{b=a}"
KINDS = ("program", "word", "seal", "least", "drop")


def desk_with(*lines):
    desk = Desk()
    for line in lines:
        desk.run(line)
    return desk


def kept(desk):
    return desk.claims, desk.lines


class Case(unittest.TestCase):
    def assert_raises(self, desk, wrong, kind, **fields):
        """A wrong line raises an error of a kind with these fields, and changes nothing."""
        before = kept(desk)
        with self.assertRaises(SpanError) as caught:
            desk.run(wrong)
        self.assertIs(caught.exception.__class__, kind, wrong)
        self.assertEqual({name: getattr(caught.exception, name) for name in fields}, fields, wrong)
        self.assertEqual(kept(desk), before)

    def assert_invalid(self, line, at, desk=None):
        self.assert_raises(desk or desk_with("program p a=1"), line, InvalidLine, line=line, at=at)


class Lines(Case):
    def test_a_new_desk(self):
        desk = Desk()
        self.assertEqual(kept(desk), ((), ()))
        self.assert_raises(desk, "undo", NothingToUndo, word="undo")
        self.assert_raises(desk, "redo", NothingToUndo, word="redo")

    def test_program(self):
        desk = Desk()
        self.assertEqual(desk.run("program p " + FORK), FORK)
        self.assertEqual(desk.run(line="program p a=1"), "a=1")
        self.assertEqual(desk.run("serial p"), '(("a",1),)')
        text = "each i<3{s+=$i};fold m max i<a+1:$i*2;start t{};await t;if a<b{c=1}{};a min=3"
        self.assertEqual(desk.run("program longname " + text), text)

    def test_a_program_without_statements(self):
        desk = Desk()
        self.assertEqual(desk.run("program p "), "")
        self.assertEqual(desk.run("serial p"), "()")
        self.assertEqual(desk.run("race p"), "calm")
        self.assertEqual(desk.run("steal p 3"), "(0,(),())")
        self.assertEqual(desk.run("replay p ()"), "()")
        self.assertEqual(desk.run("seal p"), '("ends",(),(),())')
        self.assertEqual(desk.run("least p 3"), '("least",(),3,0)')
        self.assertEqual(desk.lines, ("program p ", "seal p", "least p 3"))

    def test_a_program_of_any_word(self):
        for name in KEYWORDS + ("program", "undo", "p", "zzzzzzzz"):
            desk = Desk()
            self.assertEqual(desk.run("program " + name + " a=2"), "a=2")
            self.assertEqual(desk.run("serial " + name), '(("a",2),)')
            self.assertEqual(desk.run("drop " + name), "")
            self.assert_raises(desk, "serial " + name, UnknownName, name=name)

    def test_a_text_that_is_no_program(self):
        desk = desk_with("program p a=1")
        for text, at in ((" ", 0), ("a", 1), ("a=1 ", 4), (" a=1", 0), ("a=1;", 4), ("await t", 0), ("a=(b)", 4), ("a=1\n", 3), ("a=(1+2)", 2)):
            self.assert_raises(desk, "program p " + text, InvalidText, text=text, at=at)
            self.assert_raises(desk, "program q " + text, InvalidText, text=text, at=at)
        self.assertEqual(desk.run("serial p"), '(("a",1),)')
        self.assert_raises(desk, "serial q", UnknownName, name="q")

    def test_word(self):
        desk = Desk()
        self.assertEqual(desk.run("word b 2"), '(("b",2),)')
        self.assertEqual(desk.run("word a 1000002"), '(("a",1000002),("b",2))')
        self.assertEqual(desk.run("word b 3"), '(("a",1000002),("b",3))')
        self.assertEqual(desk.run("word a 0"), '(("b",3),)')
        self.assertEqual(desk.run("word zz 0"), '(("b",3),)')
        self.assertEqual(len(desk.lines), 5)

    def test_serial(self):
        desk = desk_with("program p " + FORK, "word c 5", "word d 7")
        self.assertEqual(desk.run("serial p"), '(("a",1),("b",2),("c",3),("d",7))')

    def test_race(self):
        desk = desk_with("program p " + FORK, "program q " + RACY)
        self.assertEqual(desk.run("race p"), "calm")
        self.assertEqual(desk.run("race q"), '((0,0,0),(0,1,0),"a")')

    def test_a_race_hangs_on_the_words(self):
        desk = desk_with("program p fork{if a{b=1}{}}{b=2}")
        self.assertEqual(desk.run("race p"), "calm")
        desk.run("word a 1")
        self.assertEqual(desk.run("race p"), '((0,0,0,0,0),(0,1,0),"b")')

    def test_steal(self):
        desk = desk_with("program p " + FORK)
        self.assertEqual(desk.run("steal p 2"), '(4,(("a",1),("b",2),("c",3)),((1,1,0,(0,1,0)),(2,0,1,(0,-1))))')
        self.assertEqual(desk.run("steal p 1"), '(5,(("a",1),("b",2),("c",3)),())')
        self.assertEqual(desk.run("steal p 1 4 9"), '(7,(("a",1),("b",2),("c",3)),())')
        program = read_program(FORK)
        for cores in range(1, 7):
            for picks in ((), (0,), (4, 0, 4), (999999999, 0, 5, 10, 123456789, 4)):
                plan, words, steals, _, _ = stolen_run(program, (), cores, picks)
                line = " ".join(["steal", "p", str(cores), *map(str, picks)])
                self.assertEqual(desk.run(line), told((len(plan), words, steals)))

    def test_replay(self):
        desk = desk_with("program p " + FORK, "word c 5")
        self.assertEqual(desk.run("replay p ()"), '(("c",5),)')
        self.assertEqual(desk.run("replay p ((),)"), '(("c",5),)')
        self.assertEqual(desk.run("replay p (((0,),),((0,1,0),))"), '(("b",2),("c",5))')
        self.assertEqual(desk.run("replay p (((0,),),((0,1,0),(0,0,0)),((0,-1),),((1,),))"), '(("a",1),("b",2),("c",3))')
        self.assert_raises(desk, "replay p (((1,),),)", NotReady, step=0, deed=(1,))
        self.assert_raises(desk, "replay p (((0,),),((),))", NotReady, step=1, deed=())
        self.assert_raises(desk, "replay p (((0,),),((0,0,0),(0,0,0)))", NotReady, step=1, deed=(0, 0, 0))

    def test_replay_of_what_is_no_plan(self):
        for text in (
            "", " ", "1", '"a"', "(", "(1,)", "((1,),)", "(((1,),)", "(((1,),),),", "((1,2),)", '((("a",),),)', "((((),),),)", '("",)', '(((""),),)',
            "(((0,),), )", " ()", "() ", "(() ,)", "[]", "(((00,),),)", "a b", '"a b"', "(((0,1),(0),),)", "-0", "((((1,),),),)", '(("a",),)',
        ):
            self.assert_invalid("replay p " + text, 9)
            # Ahead of the name that is not known.
            self.assert_invalid("replay qqqqqq " + text, 14)
        self.assert_raises(desk_with(), "replay q ()", UnknownName, name="q")

    def test_seal(self):
        desk = desk_with("program p " + FORK, "word c 5", "program q " + RACY)
        ends = ("ends", read_program(FORK), (("c", 5),), (("a", 1), ("b", 2), ("c", 3)))
        race = ("race", read_program(RACY), (("c", 5),), (0, 0, 0), (0, 1, 0))
        self.assertEqual(desk.run("seal p"), told(ends))
        self.assertEqual(desk.run("seal q"), told(race))
        self.assertEqual([claim for claim, _ in desk.claims], [ends, race])
        self.assertEqual(desk.run("seal p"), told(ends))
        self.assertEqual([claim for claim, _ in desk.claims], [ends, race, ends])
        for claim, paper in desk.claims:
            self.assertIs(claim_holds(claim, paper), True)

    def test_least(self):
        desk = desk_with("program p " + FORK)
        for cores, n in ((1, 5), (2, 4), (6, 4)):
            claim = ("least", ((), (0,), (0,), (1, 2), (3,)), cores, n)
            self.assertEqual(desk.run(f"least p {cores}"), told(claim))
            self.assertEqual(desk.claims[-1][0], claim)
            self.assertIs(claim_holds(*desk.claims[-1]), True)
        self.assertEqual(len(desk.claims), 3)

    def test_the_graph_hangs_on_the_words(self):
        desk = desk_with("program p each i<a{b=$i}", "word a 3")
        self.assertEqual(desk.run("least p 2"), '("least",((),(0,),(0,),(0,),(1,2,3)),2,4)')

    def test_drop(self):
        desk = desk_with("program p " + FORK, "seal p")
        claims = desk.claims
        self.assertEqual(desk.run("drop p"), "")
        for line in ("serial p", "race p", "steal p 2", "replay p ()", "seal p", "least p 2", "drop p"):
            self.assert_raises(desk, line, UnknownName, name="p")
        self.assertEqual(desk.claims, claims)
        self.assertEqual(desk.run("program p a=1"), "a=1")
        self.assertEqual(desk.run("serial p"), '(("a",1),)')

    def test_unknown_names(self):
        desk = desk_with("program p a=1")
        for line in ("serial q", "race q", "steal q 2", "steal q 2 4", "replay q ()", "replay q (((9,),),)", "seal q", "least q 2", "drop q"):
            self.assert_raises(desk, line, UnknownName, name="q")

    def test_kept_are_tuples(self):
        desk = desk_with("program p a=1", "seal p", "serial p")
        self.assertEqual(desk.lines, ("program p a=1", "seal p"))
        self.assertIsInstance(desk.claims, tuple)
        self.assertIsInstance(desk.claims[0], tuple)

    def test_only_lines_of_five_kinds_are_kept(self):
        desk = desk_with("program p a=1")
        for line in ("serial p", "race p", "steal p 2", "replay p ()"):
            desk.run(line)
            self.assertEqual(kept(desk), ((), ("program p a=1",)))


class Invalid(Case):
    def test_no_such_first_word(self):
        for line in (
            "", " ", "  ", "a", "Program p ", " program p ", "programs p ", "serialp", "words a 1", "PROGRAM p a=1", "\nserial p", "undo\n", "seri",
            "program", "\u00e4",
        ):
            self.assert_invalid(line, 7 if line == "program" else 0)

    def test_too_few_words(self):
        for line in (
            "program", "program ", "program p", "word", "word ", "word a", "word a ", "serial", "serial ", "race", "race ", "steal", "steal ",
            "steal p", "steal p ", "steal p 2 ", "steal p 2 4 ", "replay", "replay ", "replay p", "replay p ", "seal", "seal ", "least", "least ",
            "least p", "least p ", "drop", "drop ", "undo ", "redo ", "serial p ", "race p ", "word a 1 ", "seal p ", "least p 2 ", "drop p ",
        ):
            self.assert_invalid(line, len(line))

    def test_too_many_words(self):
        for line in ("serial p", "race p", "word a 1", "seal p", "least p 2", "drop p", "undo", "redo"):
            for more in ("p", "p q", "1", "", " ", "?"):
                self.assert_invalid(line + " " + more, len(line) + 1)

    def test_two_blanks(self):
        for line, at in (
            ("serial  p", 7), ("program  p a=1", 8), ("word  a 1", 5), ("word a  1", 7), ("steal  p 2", 6), ("steal p  2", 8), ("steal p 2  4", 10),
            ("steal p 2 4  4", 12), ("replay  p ()", 7), ("least p  2", 8), ("drop  p", 5), ("undo  ", 5), ("serial p  ", 9), ("  serial p", 0),
        ):
            self.assert_invalid(line, at)
        # Behind the name of a program they belong to the text.
        self.assert_raises(Desk(), "program p  a=1", InvalidText, text=" a=1", at=0)
        self.assert_invalid("replay p  ()", 9)

    def test_wrong_names_of_programs(self):
        for name in ("P", "p1", "1", "abcdefghi", "p-", "-p", "\u00e4", "p\n", "(", "pQ"):
            for line, rest in (
                ("program", " a=1"), ("program", " a"), ("program", ""), ("serial", ""), ("serial", " q"), ("race", ""), ("steal", " 2"), ("steal", " 9"),
                ("steal", ""), ("replay", " ()"), ("replay", " 1"), ("replay", ""), ("seal", ""), ("least", " 2"), ("least", " 0"), ("drop", ""),
            ):
                self.assert_invalid(line + " " + name + rest, len(line) + 1)

    def test_wrong_words(self):
        for name in KEYWORDS + ("A", "a1", "1", "abcdefghi", "", "$a"):
            for rest in (" 1", " x", "", " 1 1"):
                self.assert_invalid("word " + name + rest, 5)
        for value in ("-1", "x", "01", "00", "+1", str(PRIME), "999999999", "1000000000", "1" * 40, "", "1.0", "\u0661", "1_0", '"1"', "()", "a", "1\n"):
            self.assert_invalid("word abc " + value, 9)
            self.assert_invalid("word abc " + value + " 1", 9)

    def test_wrong_cores(self):
        for cores in ("0", "7", "10", "02", "-1", "+2", "x", "", "\u0662", "()", '"2"', "2,", "1000000000", "2\n"):
            self.assert_invalid("steal p " + cores, 8)
            self.assert_invalid("steal p " + cores + " x", 8)
            self.assert_invalid("least p " + cores, 8)
            self.assert_invalid("least p " + cores + " 1", 8)

    def test_wrong_picks(self):
        for pick in ("01", "00", "-1", "-0", "+1", "x", "1000000000", "1.0", "\u0662", "()", '"1"', "(1,)", "1\n"):
            self.assert_invalid("steal p 2 " + pick, 10)
            self.assert_invalid("steal p 2 0 " + pick + " 0", 12)
        self.assertEqual(desk_with("program p a=1").run("steal p 1 999999999 0"), '(2,(("a",1),),())')

    def test_ahead_of_unknown_names(self):
        for line, at in (("serial q q", 9), ("steal q 7", 8), ("steal q 2 x", 10), ("least q", 7), ("drop q ", 7), ("seal q 1", 7)):
            self.assert_invalid(line, at)

    def test_nothing_to_undo_behind_the_form(self):
        self.assert_invalid("undo 1", 5, Desk())
        self.assert_invalid("redo 1", 5, Desk())


class Undo(Case):
    def test_programs_that_gave_way_come_back(self):
        desk = desk_with("program p a=1", "program p a=2")
        self.assertEqual(desk.run("undo"), "")
        self.assertEqual(desk.run("serial p"), '(("a",1),)')
        self.assertEqual(desk.run("redo"), "")
        self.assertEqual(desk.run("serial p"), '(("a",2),)')
        self.assertEqual([desk.run("undo"), desk.run("undo")], ["", ""])
        self.assert_raises(desk, "serial p", UnknownName, name="p")
        self.assert_raises(desk, "undo", NothingToUndo, word="undo")

    def test_each_kind(self):
        desk = desk_with("program p a=b", "word b 3")
        for line, probe in (
            ("program q a=1", "serial q"), ("program p a=1", "serial p"), ("word b 4", "serial p"), ("seal p", None), ("least p 2", None),
            ("drop p", "serial p"), ("word b 0", "serial p"),
        ):
            before = self.seen(desk, probe)
            desk.run(line)
            after = self.seen(desk, probe)
            self.assertNotEqual(before, after)
            self.assertEqual(desk.run("undo"), "")
            self.assertEqual(self.seen(desk, probe), before)
            self.assertEqual(desk.run("redo"), "")
            self.assertEqual(self.seen(desk, probe), after)
            desk.run("undo")
            self.assertEqual(self.seen(desk, probe), before)

    def seen(self, desk, probe):
        try:
            return kept(desk), desk.run(probe) if probe else None
        except UnknownName:
            return kept(desk), None

    def test_behind_lines_that_only_answer(self):
        desk = desk_with("program p a=1", "word a 2", "serial p", "race p", "steal p 2", "replay p ()")
        self.assertEqual(desk.run("undo"), "")
        self.assertEqual(desk.lines, ("program p a=1",))
        for line in ("serial p", "race p", "steal p 2", "replay p ()"):
            desk.run(line)
        self.assertEqual(desk.run("redo"), "")
        self.assertEqual(desk.lines, ("program p a=1", "word a 2"))

    def test_behind_lines_that_raise(self):
        desk = desk_with("program p a=1", "word a 2", "undo")
        for line in ("word a x", "drop q", "program q x", "seal q", "least p 9", "replay p (((7,),),)"):
            with self.assertRaises(SpanError):
                desk.run(line)
        self.assertEqual(desk.run("redo"), "")
        self.assert_raises(desk, "redo", NothingToUndo, word="redo")
        self.assertEqual(desk.lines, ("program p a=1", "word a 2"))

    def test_a_new_line_ends_what_can_be_redone(self):
        for line in ("program q ", "word b 1", "seal p", "least p 1", "drop p"):
            desk = desk_with("program p a=1", "word a 2", "word a 3", "undo", "undo", line)
            self.assert_raises(desk, "redo", NothingToUndo, word="redo")
            self.assertEqual(desk.lines, ("program p a=1", line))
            desk.run("undo")
            self.assertEqual(desk.lines, ("program p a=1",))
            desk.run("redo")
            self.assertEqual(desk.lines, ("program p a=1", line))

    def test_several(self):
        desk = desk_with("program p a=b", "word b 1", "word b 2", "word b 3")
        told_words = []
        for line in ("undo", "undo", "redo", "undo", "undo", "redo", "redo", "redo", "undo"):
            desk.run(line)
            told_words.append(desk.run("serial p"))
        self.assertEqual(told_words, [
            f'(("a",{b}),("b",{b}))' if b else "()" for b in (2, 1, 2, 1, 0, 1, 2, 3, 2)])

    def test_lines_that_change_nothing_count(self):
        desk = desk_with("word a 0", "word a 0")
        self.assertEqual(desk.lines, ("word a 0", "word a 0"))
        desk.run("undo")
        self.assertEqual(desk.lines, ("word a 0",))

    def test_claims_that_are_undone_go(self):
        desk = desk_with("program p a=1", "seal p", "least p 2")
        claims = desk.claims
        desk.run("undo")
        self.assertEqual(desk.claims, claims[:1])
        desk.run("undo")
        self.assertEqual(desk.claims, ())
        desk.run("redo")
        desk.run("redo")
        self.assertEqual(desk.claims, claims)


class Desks(Case):
    def test_two_desks_do_not_touch_each_other(self):
        one, other = Desk(), Desk()
        one.run("program p a=1")
        one.run("word b 2")
        self.assert_raises(other, "serial p", UnknownName, name="p")
        self.assert_raises(other, "undo", NothingToUndo, word="undo")
        other.run("program p a=2")
        other.run("seal p")
        self.assertEqual(one.run("serial p"), '(("a",1),("b",2))')
        self.assertEqual(other.run("serial p"), '(("a",2),)')
        self.assertEqual((one.claims, len(other.claims)), ((), 1))
        self.assertEqual(kept(Desk()), ((), ()))

    def test_replayed(self):
        lines = ["program p a=b", "word b 2", "seal p", "serial p", "undo", "least p 1"]
        desk = replayed(lines)
        self.assertIsInstance(desk, Desk)
        self.assertEqual(desk.lines, ("program p a=b", "word b 2", "least p 1"))
        self.assertEqual(kept(replayed(tuple(lines))), kept(desk))
        self.assertEqual(kept(replayed(lines=lines)), kept(desk))
        self.assertEqual(kept(replayed(())), ((), ()))
        self.assertEqual(lines[3:], ["serial p", "undo", "least p 1"])
        # It can be undone from its beginning on.
        for _ in range(3):
            desk.run("undo")
        self.assertEqual(kept(desk), ((), ()))

    def test_replayed_raises_what_run_raises(self):
        for lines, kind in (
            (["undo"], NothingToUndo), (["redo"], NothingToUndo), (["serial p"], UnknownName), (["x"], InvalidLine), (["program p a"], InvalidText),
            (["program p a=1", "replay p (((1,),),)"], NotReady), ([""], InvalidLine),
        ):
            with self.assertRaises(SpanError) as caught:
                replayed(lines)
            self.assertIs(caught.exception.__class__, kind)

    def test_few_calls(self):
        desk = Desk()
        text = "if 1{" * 40 + "a=1" + "}{}" * 40
        self.assertEqual(with_few_calls(desk.run, "program p " + text), text)
        self.assertIn('"ends"', with_few_calls(desk.run, "seal p"))
        plan = told(tuple([(name,) for name in run_plan(read_program(text), (), ())[2]]))
        self.assertEqual(with_few_calls(desk.run, "replay p " + plan), "()")
        self.assert_invalid("replay p " + "(" * 60 + ")" + ",)" * 59, 9, desk)


class PlainDesk:
    """A desk that knows its lines alone, and does them anew for each answer."""

    def __init__(self, lines=()):
        self.lines, self.undone = list(lines), []

    def state(self):
        programs, words, claims = {}, {}, []
        for line in self.lines:
            head, *parts = line.split(" ")
            if head == "program":
                programs[parts[0]] = read_program(line.split(" ", 2)[2])
            elif head == "word":
                words[parts[0]] = int(parts[1])
            elif head == "drop":
                del programs[parts[0]]
            else:
                claims.append(self.claim(head, parts, programs[parts[0]], words))
        return programs, words, claims

    def claim(self, head, parts, program, words):
        begin = tuple(sorted([(name, value) for name, value in words.items() if value]))
        if head == "least":
            graph = graph_of(program, begin)
            return ("least", graph, int(parts[1]), least(graph, int(parts[1])))
        if is_calm(program, begin):
            return ("ends", program, begin, serial_end(program, begin))
        return ("race", program, begin, *first_race(program, begin)[:2])

    def run(self, line):
        """The answer to a right line, None if it raises."""
        head, *parts = line.split(" ")
        if head in ("undo", "redo"):
            source, to = (self.lines, self.undone) if head == "undo" else (self.undone, self.lines)
            if not source:
                return None
            to.append(source.pop())
            return ""
        programs, words, _ = self.state()
        if head not in ("program", "word") and parts[0] not in programs:
            return None
        if head in KINDS:
            self.lines.append(line)
            self.undone.clear()
        programs, words, claims = self.state()
        begin = tuple(sorted([(name, value) for name, value in words.items() if value]))
        if head in ("seal", "least"):
            return told(claims[-1])
        if head == "program":
            return program_text(programs[parts[0]])
        if head == "word":
            return told(begin)
        return "" if head == "drop" else self.answer(head, programs[parts[0]], begin, parts[1:])

    def answer(self, head, program, begin, parts):
        if head == "serial":
            return told(serial_end(program, begin))
        if head == "race":
            return told(first_race(program, begin)) if first_race(program, begin) else "calm"
        if head == "steal":
            plan, words, steals, _, _ = stolen_run(program, begin, int(parts[0]), [int(part) for part in parts[1:]])
            return told((len(plan), words, steals))
        try:
            return told(run_plan(program, begin, untold(parts[0]))[0])
        except NotReady:
            return None


def drawn_line(numbers, texts):
    name = numbers.choice(("p", "q", "if"))
    head = numbers.choice(KINDS + ("program", "serial", "race", "steal", "replay", "undo", "undo", "redo"))
    if head == "program":
        return f"program {name} {numbers.choice(texts)}"
    if head == "word":
        return f"word {numbers.choice('abc')} {numbers.choice((0, 1, 2, 3))}"
    if head == "least":
        return f"least {name} {numbers.randint(1, 6)}"
    if head == "steal":
        return " ".join(["steal", name, str(numbers.randint(1, 6))] + [str(numbers.randrange(40)) for _ in range(numbers.randrange(9))])
    if head == "replay":
        program = read_program(numbers.choice(texts))
        return f"replay {name} {told(picked_run(program, (), 2, [numbers.randrange(99) for _ in range(5)]))}"
    return head if head in ("undo", "redo") else f"{head} {name}"


class Promises(unittest.TestCase):
    def test_drawn_lines_against_a_plain_desk(self):
        texts = ["", FORK, RACY, "a=b", "each i<a{b+=$i}", "fork{a+=b}{a+=c}{b=1}"]
        texts += [program_text(program) for program, words in drawn_forks(30) if len(graph_of(program, (("a", 3), ("b", 3)))) < 7]
        answers = 0
        for seed in range(40):
            numbers = random.Random(seed)
            desk, plain = Desk(), PlainDesk()
            for _ in range(40):
                line = drawn_line(numbers, texts)
                wanted = plain.run(line)
                try:
                    answer = desk.run(line)
                except SpanError:
                    answer = None
                self.assertEqual(answer, wanted, line)
                self.assertEqual(desk.lines, tuple(plain.lines))
                self.assertEqual([claim for claim, _ in desk.claims], plain.state()[2])
                answers += answer is not None
            for claim, paper in desk.claims:
                self.assertIs(claim_holds(claim, paper), True)
                self.assertEqual(seal_claim(claim), paper)
            self.assert_alike(desk, replayed(desk.lines), numbers, texts)
        self.assertGreater(answers, 600)

    def assert_alike(self, desk, other, numbers, texts):
        """Two desks answer the same lines alike, but for redo."""
        self.assertEqual(kept(other), kept(desk))
        for _ in range(15):
            line = drawn_line(numbers, texts)
            if line != "redo":
                answers = []
                for one in (desk, other):
                    try:
                        answers.append(one.run(line))
                    except SpanError as error:
                        answers.append((error.__class__, vars(error)))
                self.assertEqual(answers[0], answers[1], line)
                self.assertEqual(kept(other), kept(desk))


if __name__ == "__main__":
    unittest.main()
