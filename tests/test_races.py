"""Points [17] to [19]: races, the plans of the first one, and papers of calm."""

import itertools
import random
import unittest

from forkspan.errors import Undefined
from forkspan.graphs import graph_of
from forkspan.programtext import read_program
from forkspan.races import calm_holds, calm_paper, first_race, is_calm, race_plans, races
from forkspan.runs import all_ends, picked_run, run_plan
from forkspan.serial import serial_deeds, serial_end
from tests.drawn import drawn_forks, drawn_programs
from tests.papers import Traces
from tests.plain import Plain
from tests.refusals import Refusals
from tests.samples import NO_TUPLES, changed, deep, part_at, paths, with_few_calls
from tests.test_runs import SMALL

LEFT, RIGHT = (0, 0, 0), (0, 1, 0)


def both_kinds():
    """Programs with their words, some calm and some not."""
    return [*drawn_programs(120), *drawn_forks(200), *[(read_program(text), (("b", 3),)) for text in SMALL]]


class Races(unittest.TestCase):
    def assert_races(self, text, told, words=()):
        program = read_program(text)
        self.assertEqual(races(program, words), tuple(told), text)
        self.assertEqual(first_race(program, words), told[0] if told else None)
        self.assertIs(is_calm(program, words), not told)

    def test_an_example(self):
        self.assert_races("fork{a=1}{b=2};c=a+b", ())
        self.assert_races("fork{a=1}{b=a}", ((LEFT, RIGHT, "a"),))
        self.assert_races("", ())
        program = read_program("fork{a=1}{b=a}")
        self.assertEqual(races(program=program, words=()), ((LEFT, RIGHT, "a"),))
        self.assertEqual(first_race(program=program, words=()), (LEFT, RIGHT, "a"))
        self.assertIs(is_calm(program=program, words=()), False)

    def test_what_bears_what_in_one_word(self):
        reads = ("b=a", "if a{}{}", "each i<a-a{}", "fold b + i<a-a:1", "fold b + i<1:a")
        joins = {"+": ("a+=1", "a+=0"), "*": ("a*=2",), "max": ("a max=1",), "min": ("a min=1",)}
        alone = ("a=1", "a=a", "fold a + i<0:1", "fold a max i<1:2", "a+=a", "a*=a+1", "a max=a")
        kinds = [reads] + list(joins.values()) + [(text,) for text in alone]
        for (one, texts), (other, others) in itertools.product(enumerate(kinds), repeat=2):
            for text, second in itertools.product(texts, others):
                calm = one == other and one < 5
                program = read_program(f"fork{{{text}}}{{{second.replace('b', 'c')}}}")
                self.assertIs(is_calm(program, ()), calm, (text, second))
                for race in races(program, ()):
                    self.assertEqual(race[2], "a")

    def test_no_race_where_a_way_leads(self):
        self.assert_races("a=1;a=2;b=a;a+=1;a*=2", ())
        self.assert_races("fork{a=1};a=2", ())
        self.assert_races("a=1;fork{b=a}{c=a};a=b", ())
        self.assert_races("start t{a=1};b=1;await t;a=2", ())
        self.assert_races("fold a + i<3:a", ())
        self.assert_races("if a{a=1}{a=2}", ())

    def test_what_was_started_goes_on(self):
        self.assert_races("start t{a=1};a=2;await t", (((0, 0, 0), (1,), "a"),))
        self.assert_races("fork{start t{a=1}};b=a", (((0, 0, 0, 0, 0), (1,), "a"),))
        self.assert_races("start t{a=1};start t{a=2};await t;a=3", (
            ((0, 0, 0), (1, 0, 0), "a"), ((0, 0, 0), (3,), "a")))

    def test_the_first_word(self):
        self.assert_races("fork{c=a+b}{b=c;a=1}", ((LEFT, RIGHT, "b"), (LEFT, (0, 1, 1), "a")))
        self.assert_races("fork{a+=c}{c=a}", ((LEFT, RIGHT, "a"),))
        self.assert_races("fork{a+=c}{c=1;a+=2}", ((LEFT, RIGHT, "c"),))
        self.assert_races("fork{z=b}{b=z}", ((LEFT, RIGHT, "b"),))

    def test_the_serial_order_of_the_second_then_of_the_first(self):
        self.assert_races("fork{a=1;b=1}{c=b;c=a}{a=3}", (
            ((0, 0, 1), (0, 1, 0), "b"), ((0, 0, 0), (0, 1, 1), "a"),
            ((0, 0, 0), (0, 2, 0), "a"), ((0, 1, 1), (0, 2, 0), "a"),
        ))
        self.assert_races("start t{fold a + i<1:1};fork{b=a}", (((0, 0, 0, -1), (1, 0, 0), "a"),))

    def test_only_deeds_of_the_serial_run_count(self):
        self.assert_races("fork{if a{b=1}{}}{c=b}", ())
        self.assert_races("fork{if a{b=1}{}}{c=b}", (((0, 0, 0, 0, 0), (0, 1, 0), "b"),), (("a", 1),))
        self.assert_races("each i<a{b=$i}", (), (("a", 1),))
        self.assert_races("each i<a{b=$i}", (((0, 0, 0), (0, 1, 0), "b"),), (("a", 2),))

    def test_against_point_10_word_by_word(self):
        calm = 0
        for program, words in both_kinds():
            told = Traces(program, words).races()
            calm += told == ()
            self.assertEqual(races(program, words), told)
            self.assertEqual(first_race(program, words), told[0] if told else None)
            self.assertIs(is_calm(program, words), told == ())
        self.assertGreater(min(calm, len(both_kinds()) - calm), 100)


class Calm(unittest.TestCase):
    """The promise of point [17]."""

    def test_every_plan_of_a_calm_program_does_the_same(self):
        for seed, (program, words) in enumerate(both_kinds()):
            if not is_calm(program, words):
                continue
            serial = Plain(program, words)
            for name in serial_deeds(program, words):
                serial.do(name)
            numbers = random.Random(seed)
            for _ in range(3):
                picks = [numbers.randrange(8 ** 5) for _ in range(200)]
                plan = picked_run(program, words, numbers.randint(1, 6), picks)
                plain = Plain(program, words)
                for name in [name for step in plan for name in step]:
                    plain.do(name)
                self.assertEqual(plain.results, serial.results)
                self.assertEqual(run_plan(program, words, plan)[0], serial_end(program, words))
                self.assertEqual(sorted(run_plan(program, words, plan)[1]), sorted(serial_deeds(program, words)))

    def test_one_end(self):
        for program, words in both_kinds():
            if len(serial_deeds(program, words)) <= 9 and is_calm(program, words):
                self.assertEqual(all_ends(program, words), (serial_end(program, words),))


class Plans(unittest.TestCase):
    def test_an_example(self):
        program = read_program("b=1;fork{c=1;a=1}{d=1;b=a;e=1}{f=1}")
        before = (((0,),), ((1,),), ((1, 0, 0),), ((1, 1, 0),))
        d, e = ((1, 0, 1),), ((1, 1, 1),)
        self.assertEqual(race_plans(program, ()), (before + (d, e), before + (e, d)))
        self.assertEqual(race_plans(program=program, words=()), (before + (d, e), before + (e, d)))

    def test_what_comes_ahead_in_serial_order(self):
        program = read_program("start t{fork{}{b=1}};fork{start u{c=1};await u;a=1}{await t;a=2}")
        self.assertEqual(race_plans(program, ())[0], (
            ((0,),), ((0, 0, 0),), ((0, 0, 0, 1, 0),), ((0, 0, 0, -1),), ((1,),), ((1, 0, 0),), ((1, 0, 0, 0, 0),),
            ((1, 0, 1),), ((1, 1, 0),), ((1, 0, 2),), ((1, 1, 1),),
        ))

    def test_they_can_be_run_and_both_are_ready(self):
        tried = 0
        for program, words in both_kinds():
            race = first_race(program, words)
            if race is None:
                with self.assertRaises(Undefined) as caught:
                    race_plans(program, words)
                self.assertEqual(caught.exception.what, "race")
                continue
            tried += 1
            d, e, _ = race
            traces = Traces(program, words)
            needed = [name for name in traces.names if name in traces.before[d] | traces.before[e]]
            first, second = race_plans(program, words)
            self.assertEqual(first, tuple([(name,) for name in needed + [d, e]]))
            self.assertEqual(second, tuple([(name,) for name in needed + [e, d]]))
            for plan in (first, second):
                self.assertEqual(len(run_plan(program, words, plan)[1]), len(plan))
                ready = run_plan(program, words, plan[:-2])[2]
                self.assertIn(d, ready)
                self.assertIn(e, ready)
        self.assertGreater(tried, 50)


class Papers(unittest.TestCase):
    def assert_holds(self, text, paper, told, words=()):
        self.assertIs(calm_holds(read_program(text), words, paper), told, paper)

    def test_an_example(self):
        text = "a=1;fork{b=a}{c=a;s+=1}{s+=a};a=s"
        paper = (
            ("a", (((0,),), ((1, 0, 0), (1, 1, 0), (1, 2, 0)), ((2,),))),
            ("b", (((1, 0, 0),),)),
            ("c", (((1, 1, 0),),)),
            ("s", (((1, 1, 1), (1, 2, 0)), ((2,),))),
        )
        self.assert_holds(text, paper, True)
        self.assertIs(calm_holds(program=read_program(text), words=(), paper=paper), True)
        self.assertIs(calm_holds(read_program(text), (), calm_paper(program=read_program(text), words=())), True)
        self.assert_holds(text, paper[:3], False)
        self.assert_holds(text, paper[1:], False)
        self.assert_holds(text, paper + (("z", ()),), False)
        self.assert_holds(text, paper + (("z", ((),)),), False)
        self.assert_holds(text, paper + paper[3:], False)
        self.assert_holds(text, paper[1:] + paper[:1], False)
        self.assert_holds(text, list(paper), False)
        self.assert_holds(text, changed(paper, (3, 1), (((1, 1, 1), (1, 2, 0), (2,)),)), False)
        self.assert_holds(text, changed(paper, (3, 1), (((1, 1, 1),), ((1, 2, 0),), ((2,),))), False)
        self.assert_holds(text, changed(paper, (3, 1), (((1, 2, 0), (1, 1, 1)), ((2,),))), False)
        self.assert_holds(text, changed(paper, (3, 1), (((1, 1, 1), (1, 2, 0)),)), False)
        self.assert_holds(text, changed(paper, (3, 1), (((1, 1, 1), (1, 2, 0)), ((2,),), ((2,),))), False)
        self.assert_holds(text, changed(paper, (3, 1), ((), ((1, 1, 1), (1, 2, 0)), ((2,),))), False)
        self.assert_holds(text, changed(paper, (3, 1), (((1, 1, 1), (1, 2, 0)), (), ((2,),))), False)
        self.assert_holds(text, changed(paper, (3, 1), (((1, 1, 1), (1, 2, 0), (1, -1)), ((2,),))), False)
        self.assert_holds(text, changed(paper, (1, 1, 0), ((0,), (1, 0, 0))), False)

    def test_an_empty_group_does_not_part_a_race(self):
        self.assert_holds("fork{a=1}{a=2}", (("a", ((LEFT,), (), (RIGHT,))),), False)
        self.assert_holds("fork{a=1}{a=2}", (("a", ((LEFT,), (RIGHT,))),), False)
        self.assert_holds("fork{a=1}{a=2}", (("a", ((LEFT, RIGHT),)),), False)
        self.assert_holds("fork{a=1}{a=2}", (("a", ((LEFT,),)),), False)

    def test_finer_groups(self):
        self.assert_holds("b=a;c=a", (("a", (((0,), (1,)),)), ("b", (((0,),),)), ("c", (((1,),),))), True)
        self.assert_holds("b=a;c=a", (("a", (((0,),), ((1,),))), ("b", (((0,),),)), ("c", (((1,),),))), True)
        self.assert_holds("b=a;c=a", (("a", (((1,),), ((0,),))), ("b", (((0,),),)), ("c", (((1,),),))), False)
        self.assert_holds("b=a;c=a", (("a", (((1,), (0,)),)), ("b", (((0,),),)), ("c", (((1,),),))), False)

    def test_nothing_touched(self):
        for text in ("", "fork{}{}", "start t{};await t", "if 1{}{}"):
            self.assertEqual(calm_paper(read_program(text), (("a", 1),)), ())
            self.assert_holds(text, (), True, (("a", 1),))
            self.assert_holds(text, (("a", ()),), False, (("a", 1),))

    def test_true_and_false_are_no_numbers(self):
        self.assert_holds("a=1;b=1", (("a", (((0,),),)), ("b", (((1,),),))), True)
        self.assert_holds("a=1;b=1", (("a", (((False,),),)), ("b", (((1,),),))), False)
        self.assert_holds("a=1;b=1", (("a", (((0,),),)), ("b", (((True,),),))), False)

    def test_any_value_at_all(self):
        values = NO_TUPLES + (
            (None,), ("a",), (("a",),), (("a", None),), (("a", (None,)),), (("a", ((None,),)),), (("a", (((0,), None),)),),
            (("a", (((0,),),), 1),), ((["a"], (((0,),),)),), (("a", [((0,),)]),), (("a", ([(0,)],)),), (("a", (([0],),)),),
            ((None, (((0,),),)),), (((), (((0,),),)),), (("a", "a"),), (("a", ("a",)),), (("a", (("a",),)),),
            (("a", ((("a",),),)),), (("a", (((None,),),)),), (("a", ((0,),)),), (("a", 0),), "aa", deep(60, tuple), ((),),
            (("a", (((0,),),)), None), (("a", ((([],),),)),), ("ab",), (["a", (((0,),),)],),
        )
        for value in values:
            self.assert_holds("a=1", value, False)
            if value != ():
                self.assert_holds("", value, False)
        self.assert_holds("a=1", (("a", (((0,),),)),), True)

    def test_changed_papers_against_point_19_word_by_word(self):
        rights = {True: 0, False: 0}
        for seed, (program, words) in enumerate(both_kinds()):
            if not is_calm(program, words) or len(serial_deeds(program, words)) > 40:
                continue
            numbers = random.Random(seed)
            traces = Traces(program, words)
            paper = calm_paper(program, words)
            self.assertTrue(traces.holds(paper))
            self.assertIs(calm_holds(program, words, paper), True)
            for _ in range(8):
                other = self.other_paper(numbers, paper, traces.names)
                told = traces.holds(other)
                rights[told] += 1
                self.assertIs(calm_holds(program, words, other), told, (program, other))
        self.assertGreater(min(rights.values()), 100)

    def other_paper(self, numbers, paper, names):
        """The paper with the names or the groups of a word put otherwise."""
        if not paper:
            return (("a", ()),)
        place = numbers.randrange(len(paper))
        groups = [list(group) for group in paper[place][1]]
        at = numbers.randrange(len(groups))
        kind = numbers.randrange(7)
        if kind < 2:
            cut = numbers.randint(1, len(groups[at]))
            groups[at:at + 1] = [part for part in (groups[at][:cut], groups[at][cut:]) if part]
        elif kind == 2:
            groups[at:at + 2] = [[name for group in groups[at:at + 2] for name in group]]
        elif kind == 3:
            numbers.shuffle(groups[at])
        elif kind == 4:
            numbers.shuffle(groups)
        elif kind == 5:
            groups[at].append(numbers.choice(names))
        else:
            groups[at].pop()
        return changed(paper, (place, 1), tuple([tuple(group) for group in groups]))

    def test_no_paper_holds_for_a_race(self):
        for seed, (program, words) in enumerate(both_kinds()):
            if is_calm(program, words):
                continue
            with self.assertRaises(Undefined) as caught:
                calm_paper(program, words)
            self.assertEqual(caught.exception.what, "calm")
            traces = Traces(program, words)
            numbers = random.Random(seed)
            for cuts in (0, 1, 0.5):
                paper = []
                for word in traces.words():
                    groups = []
                    for name in traces.names:
                        if word in traces.touched(name):
                            if groups and numbers.random() >= cuts:
                                groups[-1] += (name,)
                            else:
                                groups.append((name,))
                    paper.append((word, tuple(groups)))
                self.assertIs(calm_holds(program, words, tuple(paper)), False)

    def test_each_part_counts(self):
        program = read_program("a=1;fork{b=a}{c=a};a=b")
        paper = calm_paper(program, ())
        for path in paths(paper):
            if part_at(paper, path) != ():
                for value in (None, True, [], "z", 99, (99,), deep(60, tuple)):
                    self.assertIs(calm_holds(program, (), changed(paper, path, value)), False)

    def test_few_calls(self):
        program = read_program("if 1{" * 40 + "a=1" + "}{}" * 40)
        self.assertIs(with_few_calls(calm_holds, program, (), with_few_calls(calm_paper, program, ())), True)

    def test_as_many_deeds_as_there_may_be(self):
        program = read_program("each i<6{each k<6{s+=$i}};fork{a=s}{b=s}{c=s}")
        self.assertGreater(len(serial_deeds(program, ())), 50)
        self.assertIs(calm_holds(program, (), calm_paper(program, ())), True)
        self.assertEqual(len(graph_of(program, ())), len(serial_deeds(program, ())))


class Errors(Refusals, unittest.TestCase):
    FUNCTIONS = (
        races, first_race, is_calm, race_plans, calm_paper,
        lambda program, words: calm_holds(program, words, ()), lambda program, words: calm_holds(program, words, None),
    )


if __name__ == "__main__":
    unittest.main()
