"""Point [24]: claims, what is a true one, and papers with which they hold."""

import random
import unittest

from forkspan.claims import claim_holds, is_claim, seal_claim
from forkspan.errors import InvalidClaim, Refused
from forkspan.graphs import graph_of
from forkspan.least import least, least_holds, least_schedule, length_holds, length_paper
from forkspan.programtext import read_program
from forkspan.races import calm_holds, calm_paper, first_race, is_calm, race_plans
from forkspan.serial import serial_deeds, serial_end
from tests.drawn import all_graphs, drawn_forks, drawn_graphs, drawn_programs
from tests.papers import Traces
from tests.refusals import NO_PROGRAMS, NO_WORDS
from tests.samples import NO_TUPLES, changed, deep, part_at, paths, with_few_calls
from tests.test_graphs import NO_GRAPHS
from tests.test_least import HARD, NO_PAPERS

CALM = read_program("fork{a=1}{b=2};c=a+b")
RACY = read_program("b=1;fork{c=1;a=1}{a=b}")
GRAPH = ((), (0,), (0,), (1, 2), (3,))
WORDS = (("c", 5),)
END = (("a", 1), ("b", 2), ("c", 3))
ENDS = ("ends", CALM, WORDS, END)
RACE = ("race", RACY, (), (1, 0, 1), (1, 1, 0))
LEAST = ("least", GRAPH, 2, 4)
LONGER = ("longer", GRAPH, 2, 3)
CLAIMS = (ENDS, RACE, LEAST, LONGER)


def drawn_cases(many):
    return [*drawn_programs(many), *drawn_forks(many)]


class IsClaim(unittest.TestCase):
    def test_claims(self):
        for claim in CLAIMS + (
            ("ends", (), (), ()), ("ends", CALM, (), WORDS), ("race", (), (), (), ()), ("race", CALM, WORDS, (5,), (-1, 10 ** 30)),
            ("least", (), 1, 0), ("least", GRAPH, 6, -(10 ** 30)), ("longer", (), 6, 10 ** 30), ("longer", GRAPH, 1, -1),
        ):
            self.assertIs(is_claim(claim), True, claim)
        self.assertIs(is_claim(value=ENDS), True)

    def test_true_or_not_does_not_matter(self):
        self.assertIs(is_claim(("ends", RACY, (), ())), True)
        self.assertIs(is_claim(("least", GRAPH, 2, 5)), True)

    def test_no_claims(self):
        for value in NO_TUPLES + NO_PAPERS + (
            ("ends",), ("end", CALM, WORDS, END), ("", CALM, WORDS, END), (None, CALM, WORDS, END), ((), CALM, WORDS, END),
            (["ends"], CALM, WORDS, END), ([], CALM, WORDS, END), ("ends", CALM, WORDS), ("ends", CALM, WORDS, END, ()),
            list(ENDS), ("race", RACY, (), (1, 0, 1)), ("race", RACY, (), (1, 0, 1), (1, 1, 0), "a"), ("race", RACY, (1, 0, 1), (1, 1, 0)),
            ("least", GRAPH, 2), ("least", GRAPH, 2, 4, 4), ("longer", GRAPH, 2), ("longer", GRAPH, 2, 3, ()),
            ("ENDS", CALM, WORDS, END), (0, CALM, WORDS, END), "ends", ("least", CALM, WORDS, END),
        ):
            self.assertIs(is_claim(value), False, value)

    def test_each_part(self):
        no_cores = (0, 7, -1, 10 ** 30, True, False, None, "2", (2,), [2], ())
        no_integers = (True, False, None, "4", (4,), [4], ())
        no_deed = (0, None, "", "a", [], [0], (True,), (0, False), ("0",), (None,), ((0,),), ([],), (0, ()), True, deep(60, tuple))
        for claim, place, values in (
            (ENDS, 1, NO_PROGRAMS), (ENDS, 2, NO_WORDS), (ENDS, 3, NO_WORDS), (RACE, 1, NO_PROGRAMS), (RACE, 2, NO_WORDS),
            (RACE, 3, no_deed), (RACE, 4, no_deed), (LEAST, 1, NO_GRAPHS), (LEAST, 2, no_cores), (LEAST, 3, no_integers),
            (LONGER, 1, NO_GRAPHS), (LONGER, 2, no_cores), (LONGER, 3, no_integers),
        ):
            for value in values:
                wrong = changed(claim, (place,), value)
                self.assertIs(is_claim(wrong), False, wrong)
                self.assertIs(claim_holds(wrong, ()), False)
                with self.assertRaises(InvalidClaim) as caught:
                    seal_claim(wrong)
                self.assertIs(caught.exception.value, wrong)


class Holds(unittest.TestCase):
    def assert_holds(self, claim, paper, told):
        self.assertIs(claim_holds(claim, paper), told, (claim, paper))

    def test_ends(self):
        paper = calm_paper(CALM, WORDS)
        self.assert_holds(ENDS, paper, True)
        self.assertIs(claim_holds(claim=ENDS, paper=paper), True)
        for end in ((), WORDS, END[:2], (("a", 1), ("b", 2), ("c", 4)), END + (("d", 1),)):
            self.assert_holds(("ends", CALM, WORDS, end), paper, False)
        self.assert_holds(("ends", CALM, (("d", 1),), END), paper, False)
        self.assert_holds(("ends", (), WORDS, WORDS), (), True)
        self.assert_holds(("ends", (), WORDS, ()), (), False)
        # The end of the serial run alone is not enough.
        racy = read_program("fork{a=1}{a=2}")
        self.assert_holds(("ends", racy, (), serial_end(racy, ())), (("a", (((0, 0, 0),), ((0, 1, 0),))),), False)

    def test_race(self):
        paper = race_plans(RACY, ())
        self.assert_holds(RACE, paper, True)
        self.assert_holds(RACE, paper[::-1], False)
        self.assert_holds(RACE, list(paper), False)
        self.assert_holds(RACE, paper[:1], False)
        self.assert_holds(RACE, paper + paper[:1], False)
        self.assert_holds(RACE, (), False)
        self.assert_holds(("race", RACY, (), (1, 1, 0), (1, 0, 1)), paper, False)
        self.assert_holds(("race", RACY, (), (1, 0, 1), (1, 0, 1)), paper, False)
        self.assert_holds(("race", RACY, (), (), ()), paper, False)
        # Only the first race counts.
        several = read_program("fork{a=1}{a=2}{a=3}")
        self.assertEqual(first_race(several, ())[:2], ((0, 0, 0), (0, 1, 0)))
        self.assert_holds(("race", several, (), (0, 0, 0), (0, 1, 0)), race_plans(several, ()), True)
        self.assert_holds(("race", several, (), (0, 0, 0), (0, 2, 0)), race_plans(several, ()), False)
        self.assert_holds(("race", several, (), (0, 1, 0), (0, 2, 0)), race_plans(several, ()), False)
        # A calm program has none.
        self.assert_holds(("race", CALM, (), (0, 0, 0), (0, 1, 0)), paper, False)

    def test_just_race_plans(self):
        paper = race_plans(RACY, ())
        for path in paths(paper):
            for value in (None, True, False, [], (), "z", 9, (9,), deep(60, list)):
                self.assert_holds(RACE, changed(paper, path, value), False)
            self.assert_holds(RACE, changed(paper, path, part_at(paper, path)), True)

    def test_least(self):
        schedule, paper = ((0,), (1, 2), (3,), (4,)), ("way", (0, 1, 3, 4))
        self.assert_holds(LEAST, (schedule, paper), True)
        for wrong in (
            (), schedule, paper, (schedule,), (schedule, paper, ()), [schedule, paper], (paper, schedule), (schedule, ("area",)),
            (schedule[:3], paper), (schedule + ((),), paper), (schedule, None), (None, paper), (list(schedule), paper), ("", ""),
        ):
            self.assert_holds(LEAST, wrong, False)
        for n in (-1, 0, 3, 5):
            self.assert_holds(("least", GRAPH, 2, n), (schedule, paper), False)
        self.assert_holds(("least", GRAPH, 1, 4), (schedule, paper), False)
        self.assert_holds(("least", (), 1, 0), ((), ("area",)), True)
        self.assert_holds(("least", (), 1, 0), (((),), ("area",)), False)

    def test_longer(self):
        for n in range(-2, 7):
            self.assert_holds(("longer", GRAPH, 2, n), ("area",), n <= 3)
            self.assert_holds(("longer", GRAPH, 2, n), ("way", (0, 1, 3, 4)), n <= 4)
        self.assert_holds(LONGER, (((0,), (1, 2), (3,), (4,)), ("area",)), False)
        self.assert_holds(("longer", (), 1, 0), ("way", ()), True)

    def test_any_values_at_all(self):
        for value in NO_TUPLES + NO_PAPERS:
            self.assert_holds(value, (), False)
            self.assert_holds(value, value, False)
            for claim in CLAIMS:
                self.assert_holds(claim, value, False)
        for claim in CLAIMS:
            self.assert_holds(claim, claim, False)
            for other in CLAIMS:
                if other[0] != claim[0]:
                    self.assert_holds(claim, seal_claim(other), False)

    def test_it_holds_as_its_parts_do(self):
        for program, words in drawn_cases(60):
            end = serial_end(program, words)
            if is_calm(program, words):
                paper = calm_paper(program, words)
                self.assert_holds(("ends", program, words, end), paper, calm_holds(program, words, paper))
                self.assert_holds(("ends", program, words, end[1:] if end else (("z", 1),)), paper, False)


class Seal(unittest.TestCase):
    def assert_sealed(self, claim):
        paper = seal_claim(claim)
        self.assertIs(claim_holds(claim, paper), True, claim)
        self.assertEqual(seal_claim(claim), paper)

    def assert_refused(self, claim):
        self.assertIs(is_claim(claim), True)
        with self.assertRaises(Refused) as caught:
            seal_claim(claim)
        self.assertIs(caught.exception.claim, claim)

    def test_examples(self):
        for claim in CLAIMS:
            self.assert_sealed(claim)
        self.assertIs(claim_holds(ENDS, seal_claim(claim=ENDS)), True)
        self.assertEqual(seal_claim(RACE), race_plans(RACY, ()))

    def test_no_claim(self):
        for value in NO_TUPLES + NO_PAPERS + (ENDS[:3], list(ENDS), ENDS + ((),)):
            with self.assertRaises(InvalidClaim) as caught:
                seal_claim(value)
            self.assertIs(caught.exception.value, value)

    def test_what_is_not_true(self):
        for claim in (
            ("ends", CALM, WORDS, ()), ("ends", CALM, WORDS, END[:2]), ("ends", RACY, (), serial_end(RACY, ())), ("ends", RACY, (), ()),
            ("race", CALM, (), (0, 0, 0), (0, 1, 0)), ("race", RACY, (), (1, 1, 0), (1, 0, 1)), ("race", RACY, (), (), ()),
            ("race", (), (), (), ()), ("least", GRAPH, 2, 3), ("least", GRAPH, 2, 5), ("least", (), 2, 1), ("least", (), 2, -1),
            ("longer", GRAPH, 2, 5), ("longer", (), 2, 1), ("longer", GRAPH, 1, 6), ("longer", GRAPH, 6, 10 ** 30),
            ("race", read_program("fork{a=1}{a=2}{a=3}"), (), (0, 0, 0), (0, 2, 0)),
        ):
            self.assert_refused(claim)

    def test_all_that_programs_claim(self):
        kinds = {True: 0, False: 0}
        for program, words in drawn_cases(120):
            races = Traces(program, words).races()
            end = serial_end(program, words)
            claim = ("ends", program, words, end)
            kinds[races == ()] += 1
            if races:
                self.assert_refused(claim)
                self.assert_sealed(("race", program, words) + races[0][:2])
                for race in races[1:4]:
                    self.assert_refused(("race", program, words) + race[:2])
            else:
                self.assert_sealed(claim)
                self.assert_refused(("ends", program, words, () if end else (("z", 1),)))
                for deed in serial_deeds(program, words)[:3]:
                    self.assert_refused(("race", program, words, deed, deed))
        self.assertGreater(min(kinds.values()), 30)

    def test_all_lengths(self):
        for graph in [*all_graphs(3), *drawn_graphs(40, 9), *HARD]:
            for cores in (1, 2, 3):
                n = least(graph, cores)
                for other in range(-1, n + 3):
                    claim = ("longer", graph, cores, other)
                    if other <= n:
                        self.assert_sealed(claim)
                        self.assertIs(length_holds(graph, cores, other, seal_claim(claim)), True)
                    else:
                        self.assert_refused(claim)
                    claim = ("least", graph, cores, other)
                    if other == n:
                        self.assert_sealed(claim)
                        self.assertIs(least_holds(graph, cores, n, *seal_claim(claim)), True)
                    else:
                        self.assert_refused(claim)
        self.assertEqual(seal_claim(("longer", HARD[0], 2, 5))[0], "table")
        self.assert_sealed(("longer", GRAPH, 2, -(10 ** 30)))

    def test_if_a_claim_holds_with_a_paper_it_is_true(self):
        for seed, (program, words) in enumerate(drawn_cases(60)):
            numbers = random.Random(seed)
            papers = [(), calm_paper(CALM, WORDS)]
            papers += [calm_paper(program, words) if is_calm(program, words) else race_plans(program, words)]
            names = serial_deeds(program, words)
            for end in (serial_end(program, words), (), words):
                claim = ("ends", program, words, end)
                true = is_calm(program, words) and end == serial_end(program, words)
                self.assertLessEqual(any([claim_holds(claim, paper) for paper in papers]), true)
            if names:
                d, e = numbers.choice(names), numbers.choice(names)
                true = (first_race(program, words) or ())[:2] == (d, e)
                self.assertEqual(any([claim_holds(("race", program, words, d, e), paper) for paper in papers]), true)

    def test_some_length_paper(self):
        graph = graph_of(CALM, WORDS)
        self.assertEqual(least(graph, 2), 4)
        for paper in (length_paper(graph, 2), ("way", (0, 2, 3, 4)), ("window", 1, 2), ("window", 0, 3)):
            self.assertIs(claim_holds(("least", graph, 2, 4), (least_schedule(graph, 2), paper)), True, paper)

    def test_few_calls(self):
        program = read_program("if 1{" * 40 + "a=1" + "}{}" * 40)
        claim = ("ends", program, (), (("a", 1),))
        self.assertIs(claim_holds(claim, with_few_calls(seal_claim, claim)), True)


if __name__ == "__main__":
    unittest.main()
