"""The main promise of section 1, over the whole program, and its examples."""

import random
import unittest

from forkspan.claims import claim_holds, seal_claim
from forkspan.graphs import graph_of, span, work
from forkspan.least import least
from forkspan.programtext import program_text, read_program
from forkspan.races import calm_holds, calm_paper, first_race, race_plans
from forkspan.runs import finished, picked_run, plan_of, run_plan
from forkspan.schedules import is_greedy, is_schedule, listed
from forkspan.serial import serial_deeds, serial_end
from forkspan.stealing import stolen_run
from forkspan.told import told, untold
from tests.drawn import drawn_forks, drawn_programs
from tests.plain import Plain
from tests.samples import with_few_calls


def drawn_cases():
    """Programs with words, and numbers drawn for each."""
    for seed, (program, words) in enumerate([*drawn_programs(150), *drawn_forks(150, depth=2)]):
        if len(serial_deeds(program, words)) <= 60:
            yield program, words, random.Random(seed)


def drawn_schedule(graph, cores, numbers):
    """A schedule with delays: some steps are empty, some are not full."""
    done, steps = [], []
    while len(done) < len(graph):
        free = [node for node, row in enumerate(graph) if node not in done and set(row) <= set(done)]
        step = sorted(numbers.sample(free, numbers.randint(0, min(cores, len(free)))))
        steps.append(tuple(step))
        done += step
    return tuple(steps)


class MainPromise(unittest.TestCase):
    def test_the_examples_of_the_document(self):
        program = read_program("fork{a=1}{b=2};c=a+b")
        self.assertEqual(serial_end(program, (("c", 5),)), (("a", 1), ("b", 2), ("c", 3)))
        self.assertIs(first_race(program, ()) is None, True)
        self.assertEqual(first_race(read_program("fork{a=1}{b=a}"), ()), ((0, 0, 0), (0, 1, 0), "a"))

    def test_without_a_race_all_schedules_do_the_same(self):
        tried = 0
        for program, words, numbers in drawn_cases():
            if first_race(program, words) is not None:
                continue
            tried += 1
            names, end, graph = serial_deeds(program, words), serial_end(program, words), graph_of(program, words)
            self.assertIs(calm_holds(program, words, calm_paper(program, words)), True)
            for _ in range(2):
                cores = numbers.randint(1, 6)
                schedule = drawn_schedule(graph, cores, numbers)
                self.assertIs(is_schedule(graph, cores, schedule), True)
                picks = [numbers.randrange(50) for _ in range(numbers.randrange(100))]
                for plan in (
                    plan_of(program, words, schedule), stolen_run(program, words, cores, picks)[0],
                    picked_run(program, words, cores, picks),
                ):
                    left, done, ready = run_plan(program, words, plan)
                    self.assertEqual((left, sorted(done), ready), (end, sorted(names), ()))
                    self.assertIs(finished(program, words, plan), True)
        self.assertGreater(tried, 100)

    def test_a_race_is_told_with_two_schedules(self):
        tried = 0
        for program, words, _ in drawn_cases():
            race = first_race(program, words)
            if race is not None:
                tried += 1
                d, e, word = race
                first, second = race_plans(program, words)
                self.assertEqual((first[-2:], second[-2:]), (((d,), (e,)), ((e,), (d,))))
                self.assertEqual(first[:-2], second[:-2])
                for plan in (first, second):
                    plain = Plain(program, words)
                    for step in plan:
                        self.assertIn(step[0], plain.ready())
                        plain.do(step[0])
                    self.assertEqual(run_plan(program, words, plan)[0], plain.end())
        self.assertGreater(tried, 30)

    def test_greedy_schedules_end_in_time(self):
        for program, words, numbers in drawn_cases():
            graph = graph_of(program, words)
            for cores in range(1, 7):
                schedule = listed(graph, cores, numbers.sample(range(len(graph)), len(graph)))
                self.assertIs(is_greedy(graph, cores, schedule), True)
                self.assertLessEqual(cores * len(schedule), work(graph) - span(graph) + cores * span(graph))

    def test_the_least_number_is_told_with_a_schedule_and_a_paper(self):
        tried = 0
        for program, words, numbers in drawn_cases():
            graph = graph_of(program, words)
            if len(graph) <= 9:
                tried += 1
                cores = numbers.randint(1, 6)
                n = least(graph, cores)
                schedule, paper = seal_claim(("least", graph, cores, n))
                self.assertIs(is_schedule(graph, cores, schedule), True)
                self.assertEqual(len(schedule), n)
                self.assertIs(claim_holds(("least", graph, cores, n), (schedule, paper)), True)
                self.assertIs(claim_holds(("longer", graph, cores, n), paper), True)
                self.assertIs(claim_holds(("longer", graph, cores, n + 1), paper), False)
                self.assertLessEqual(n, len(listed(graph, cores, range(len(graph)))))
        self.assertGreater(tried, 30)

    def test_each_true_claim_has_a_paper(self):
        for program, words, _ in drawn_cases():
            race = first_race(program, words)
            claim = ("ends", program, words, serial_end(program, words))
            if race is not None:
                claim = ("race", program, words) + race[:2]
            paper = seal_claim(claim)
            self.assertIs(claim_holds(claim, paper), True)
            self.assertEqual(seal_claim(claim), paper)
            # Claims and papers can be told and read again.
            self.assertIs(claim_holds(untold(told(claim)), untold(told(paper))), True)

    def test_the_greatest_programs(self):
        # Many deeds, eight words, and blocks nested six deep.
        deep = "fork{if 1{start t{each i<1{fork{start u{a=1};await u}}};await t}{}}"
        wide = "each i<6{each k<6{s+=$i*$k}};a=s;b=s;c=s;d=s;e=s;f=s;g=s"
        for text in (wide, deep, "each i<6{fork{a+=1}{b+=1}{c+=1}{d+=1;d+=2}}"):
            program = read_program(text)
            self.assertEqual(program_text(program), text)
            self.assertLessEqual(len(serial_deeds(program, ())), 60)
            claim = ("ends", program, (), serial_end(program, ()))
            self.assertIs(with_few_calls(claim_holds, claim, with_few_calls(seal_claim, claim)), True)
            for cores in range(1, 7):
                self.assertEqual(stolen_run(program, (), cores, [7] * 200)[1], serial_end(program, ()))


if __name__ == "__main__":
    unittest.main()
