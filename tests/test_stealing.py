"""Points [20] and [21]: rows of cores, steals, failures and delays."""

import random
import unittest

from forkspan.errors import InvalidNumber
from forkspan.graphs import graph_of, span, work
from forkspan.programtext import read_program
from forkspan.races import is_calm
from forkspan.runs import finished, run_plan
from forkspan.schedules import is_greedy, is_schedule
from forkspan.serial import kind_of, serial_deeds, serial_end
from forkspan.stealing import row_bound, rows_at, stolen_run
from tests.drawn import drawn_forks, drawn_programs
from tests.plain import Plain
from tests.refusals import Refusals
from tests.samples import deep, with_few_calls

FORK = "fork{a=1}{b=2};c=a+b"
FOUR = "fork{a=1}{b=1}{c=1}{d=1}"


def plain_stolen(program, words, cores, picks):
    """What stolen_run tells, and the rows at the beginning of each step, word by word as the point says."""
    plain = Plain(program, words)
    rows = [plain.ready()] + [[] for _ in range(cores - 1)]
    coming = iter(picks)
    plan, steals, failures, delays, seen = [], [], 0, 0, [tuple(map(tuple, rows))]
    while plain.ready():
        known, did = plain.ready(), []
        for core in range(cores):
            k = next(coming, None)
            if k is not None and k % 5 == 4:
                delays += 1
                continue
            if rows[core]:
                name = rows[core].pop()
            else:
                full = [other for other in range(cores) if rows[other]]
                victim = k // 5 % cores if k is not None else full[0] if full else core
                if not rows[victim]:
                    failures += 1
                    continue
                name = rows[victim].pop(0)
                steals.append((len(plan), core, victim, name))
            plain.do(name)
            did.append((name, core))
        plan.append(tuple([name for name, _ in did]))
        new = [name for name in plain.ready() if name not in known]
        # No part of a name is near as great as this.
        for name in sorted(new, key=lambda name: [10 ** 9 if part == -1 else part for part in name])[::-1]:
            rows[[core for ahead, core in did if ahead in plain.deeds[name][3]][-1]].append(name)
        seen.append(tuple(map(tuple, rows)))
    return (tuple(plan), plain.end(), tuple(steals), failures, delays), seen


def drawn_runs(many):
    """Programs with words, cores and picks."""
    for seed, (program, words) in enumerate([*drawn_programs(many), *drawn_forks(many, depth=2)]):
        numbers = random.Random(seed)
        picks = [numbers.randrange(60) for _ in range(numbers.choice((0, 10, 60, 200)))]
        if len(serial_deeds(program, words)) <= 40:
            yield program, words, numbers.randint(1, 6), picks


class Stolen(unittest.TestCase):
    def assert_stolen(self, text, cores, picks, plan, steals, failures, delays, words=()):
        program = read_program(text)
        told = stolen_run(program, words, cores, picks)
        self.assertEqual(told[0], plan)
        self.assertEqual(told[1], run_plan(program, words, plan)[0])
        self.assertEqual(told[2:], (steals, failures, delays))
        self.assertEqual(stolen_run(program, words, cores, list(picks)), told)

    def test_no_statement(self):
        for cores in (1, 2, 6):
            for picks in ((), (4, 4, 0, 9)):
                self.assertEqual(stolen_run((), (("a", 1),), cores, picks), ((), (("a", 1),), (), 0, 0))
                self.assertEqual(rows_at((), (), cores, picks, 0), ((),) * cores)
        self.assertEqual(row_bound((), ()), 0)

    def test_an_example_without_picks(self):
        self.assert_stolen(
            FORK, 2, (), (((0,),), ((0, 0, 0), (0, 1, 0)), ((0, -1),), ((1,),)),
            # The join came into the row of core 1, which did the last deed ahead of it.
            ((1, 1, 0, (0, 1, 0)), (2, 0, 1, (0, -1))), 3, 0)
        program = read_program(FORK)
        self.assertEqual([rows_at(program, (), 2, (), step) for step in range(5)], [
            (((0,),), ()), (((0, 1, 0), (0, 0, 0)), ()), ((), ((0, -1),)), (((1,),), ()), ((), ()),
        ])

    def test_one_core(self):
        self.assert_stolen(FORK, 1, (), (((0,),), ((0, 0, 0),), ((0, 1, 0),), ((0, -1),), ((1,),)), (), 0, 0)
        # With one core a pick does no more than delay.
        self.assert_stolen(FORK, 1, (3, 4, 9, 0, 14), (
            ((0,),), (), (), ((0, 0, 0),), (), ((0, 1, 0),), ((0, -1),), ((1,),)), (), 0, 3)

    def test_more_cores_than_ready_deeds(self):
        self.assert_stolen(
            FORK, 6, (), (((0,),), ((0, 0, 0), (0, 1, 0)), ((0, -1),), ((1,),)),
            ((1, 1, 0, (0, 1, 0)), (2, 0, 1, (0, -1))), 5 + 4 + 5 + 5, 0)

    def test_the_last_deed_is_taken_and_the_first_one_stolen(self):
        program = read_program(FOUR)
        self.assertEqual(rows_at(program, (), 2, (), 1)[0], ((0, 3, 0), (0, 2, 0), (0, 1, 0), (0, 0, 0)))
        self.assert_stolen(
            FOUR, 2, (), (((0,),), ((0, 0, 0), (0, 3, 0)), ((0, 1, 0), (0, 2, 0)), ((0, -1),)),
            ((1, 1, 0, (0, 3, 0)), (2, 1, 0, (0, 2, 0)), (3, 0, 1, (0, -1))), 2, 0)

    def test_a_pick_tells_the_victim(self):
        # In step 1 core 1 tries core 1 itself, core 2 core 0; in step 2 core 1 core 2 in vain, core 2 core 5 modulo 3.
        picks = (0, 0, 0, 0, 5, 0, 0, 10, 25, 0, 0, 0)
        self.assert_stolen(
            FOUR, 3, picks, (((0,),), ((0, 0, 0), (0, 3, 0)), ((0, 1, 0),), ((0, 2, 0),), ((0, -1),)),
            ((1, 2, 0, (0, 3, 0)),), 2 + 1 + 2 + 2 + 2, 0)

    def test_remainders_but_4_do_not_matter(self):
        for rest in (0, 1, 2, 3):
            self.assert_stolen(
                FOUR, 2, (rest, rest, rest, rest), (((0,),), ((0, 0, 0), (0, 3, 0)), ((0, 1, 0), (0, 2, 0)), ((0, -1),)),
                ((1, 1, 0, (0, 3, 0)), (2, 1, 0, (0, 2, 0)), (3, 0, 1, (0, -1))), 2, 0)

    def test_each_core_uses_a_pick_in_each_step(self):
        # The 4 is the pick of core 1 in step 1, the 9 that of core 0 in step 2.
        self.assert_stolen(
            FOUR, 2, (0, 0, 0, 4, 9), (
                ((0,),), ((0, 0, 0),), ((0, 3, 0),), ((0, 1, 0), (0, 2, 0)), ((0, -1),)),
            ((2, 1, 0, (0, 3, 0)), (3, 1, 0, (0, 2, 0)), (4, 0, 1, (0, -1))), 2, 2)

    def test_steps_in_which_all_are_delayed(self):
        self.assert_stolen(
            FORK, 2, (4, 9, 14, 4) + (0, 0) + (4, 4), (
                (), (), ((0,),), (), ((0, 0, 0), (0, 1, 0)), ((0, -1),), ((1,),)),
            ((4, 1, 0, (0, 1, 0)), (5, 0, 1, (0, -1))), 3, 6)
        program = read_program(FORK)
        self.assertEqual(rows_at(program, (), 2, [4] * 4, 2), (((0,),), ()))
        self.assertEqual(stolen_run(program, (), 3, [4] * 200)[4], 200)

    def test_a_core_whose_own_last_deed_was_stolen(self):
        # In step 2 core 0 steals the join, the only deed of core 1, which then tries core 0, or itself, in vain.
        for pick in (0, 5, 15):
            self.assert_stolen(FORK, 2, (0, 0, 0, 0, 5, pick), (
                ((0,),), ((0, 0, 0), (0, 1, 0)), ((0, -1),), ((1,),)),
                ((1, 1, 0, (0, 1, 0)), (2, 0, 1, (0, -1))), 3, 0)

    def test_a_robbed_core_steals_in_its_turn(self):
        # At step 2 core 0 has nothing, core 1 and core 2 have one deed each; core 0 steals from core 1.
        program = read_program("fork{}{a=1;a=2}{b=1;b=2}")
        before = (0, 0, 0, 4, 0, 0)
        self.assertEqual(rows_at(program, (), 3, before, 2), ((), ((0, 2, 1),), ((0, 1, 1),)))
        for picks, step, steals in (
            ((5, 10, 0), ((0, 2, 1), (0, 1, 1)), ((2, 0, 1, (0, 2, 1)), (2, 1, 2, (0, 1, 1)))),
            # Without picks likewise: from the lowest core whose row is not empty then.
            ((), ((0, 2, 1), (0, 1, 1)), ((2, 0, 1, (0, 2, 1)), (2, 1, 2, (0, 1, 1)))),
            # Core 1 tries itself, so core 2 does its own one.
            ((5, 5, 0), ((0, 2, 1), (0, 1, 1)), ((2, 0, 1, (0, 2, 1)),)),
            # Core 1 tries core 0, whose row is still empty although it did a deed.
            ((5, 0, 4), ((0, 2, 1),), ((2, 0, 1, (0, 2, 1)),)),
            # Core 0 steals from core 2, which then steals from core 1, if core 1 is delayed.
            ((10, 4, 5), ((0, 1, 1), (0, 2, 1)), ((2, 0, 2, (0, 1, 1)), (2, 2, 1, (0, 2, 1)))),
        ):
            told = stolen_run(program, (), 3, before + picks)
            self.assertEqual(told[0][2], step)
            self.assertEqual(tuple([steal for steal in told[2] if steal[0] == 2]), steals)

    def test_what_is_done_at_once_is_read_in_the_same_step(self):
        program = read_program("fork{a=1}{b=a}")
        self.assertEqual(stolen_run(program, (), 2, ())[1], (("a", 1), ("b", 1)))
        # Core 0 is delayed, so core 1 reads first.
        self.assertEqual(stolen_run(program, (), 2, (0, 0, 4, 0))[1], (("a", 1),))

    def test_the_row_of_the_core_that_did_the_last(self):
        # The await comes behind a deed of core 0 and one of core 1; by delays the one or the other is the last.
        program = read_program("start t{a=1};b=1;await t")
        self.assertEqual(rows_at(program, (), 2, (), 2), ((), ((2,),)))
        self.assertEqual(rows_at(program, (), 2, (0, 0, 4, 0), 3), (((2,),), ()))
        self.assertEqual(rows_at(program, (), 2, (0, 0, 0, 4, 4, 0), 3), ((), ((2,),)))
        self.assertEqual(rows_at(program, (), 2, (0, 0, 0, 4, 0, 4), 3), (((2,),), ()))

    def test_each_new_deed_comes_to_its_own_core(self):
        program = read_program("fork{a=1;a=2}{b=1;b=2}{c=1;c=2}")
        self.assertEqual(rows_at(program, (), 3, (), 2), (((0, 0, 1),), ((0, 2, 1),), ((0, 1, 1),)))

    def test_new_deeds_stand_behind_the_old_ones_descending(self):
        program = read_program("fork{fork{}{a=1}}{b=1}")
        self.assertEqual(rows_at(program, (), 1, (), 1), (((0, 1, 0), (0, 0, 0)),))
        self.assertEqual(rows_at(program, (), 1, (), 2), (((0, 1, 0), (0, 0, 0, 1, 0)),))
        program = read_program("start t{a=1};each i<3{a=1}")
        self.assertEqual(rows_at(program, (), 1, (), 1), (((1,), (0, 0, 0)),))
        self.assertEqual(rows_at(program, (), 1, (), 3), (((1, 2, 0), (1, 1, 0), (1, 0, 0)),))

    def test_a_minus_1_counts_as_greater(self):
        # Behind (0, 0, 0) come the join (0, -1) of its block and what it has started.
        program = read_program("fork{start t{a=1}}")
        self.assertEqual(rows_at(program, (), 1, (), 2), (((0, -1), (0, 0, 0, 0, 0)),))
        # The last part is not the only one that counts.
        program = read_program("start t{fork{}};a=1")
        self.assertEqual(rows_at(program, (), 1, (), 2), (((1,), (0, 0, 0, -1)),))
        program = read_program("each i<1{start t{a=1}}")
        self.assertEqual(rows_at(program, (), 1, (), 2), (((0, -1), (0, 0, 0, 0, 0)),))

    def test_lists_and_names(self):
        program = read_program(FORK)
        picks = [0, 4, 4, 0, 0, 5]
        told = stolen_run(program, (), 2, tuple(picks))
        self.assertEqual(stolen_run(program=program, words=(), cores=2, picks=picks), told)
        self.assertEqual(
            rows_at(program=program, words=(), cores=2, picks=picks, step=1), rows_at(program, (), 2, tuple(picks), 1))
        self.assertEqual(row_bound(program=program, words=()), 2)
        self.assertEqual(picks, [0, 4, 4, 0, 0, 5])

    def test_drawn_runs_against_plain_ones(self):
        for program, words, cores, picks in drawn_runs(150):
            told, seen = plain_stolen(program, words, cores, picks)
            self.assertEqual(stolen_run(program, words, cores, picks), told)
            for step, rows in enumerate(seen):
                self.assertEqual(rows_at(program, words, cores, picks, step), rows)

    def test_few_calls(self):
        program = read_program("if 1{" * 40 + "a=1" + "}{}" * 40)
        self.assertEqual(with_few_calls(stolen_run, program, (), 2, ())[1], (("a", 1),))


class RowsAt(unittest.TestCase):
    def test_no_number_of_a_step(self):
        program = read_program(FORK)
        for value in (
            -1, 5, 6, 10 ** 30, True, False, None, "", "0", "a", (), (0,), [], [0], ((),), deep(60, tuple), deep(60, list),
        ):
            with self.assertRaises(InvalidNumber) as caught:
                rows_at(program, (), 2, (), value)
            self.assertIs(caught.exception.value, value)
        # With delays there are more steps.
        self.assertEqual(rows_at(program, (), 2, (4, 4), 5), ((), ()))
        for value in (1, -1, False):
            with self.assertRaises(InvalidNumber):
                rows_at((), (), 2, (), value)

    def test_a_row_for_each_core(self):
        for cores in range(1, 7):
            self.assertEqual(rows_at(read_program("a=1"), (), cores, (), 0), (((0,),),) + ((),) * (cores - 1))
            self.assertEqual(rows_at(read_program("a=1"), (), cores, (), 1), ((),) * cores)


class Promises(unittest.TestCase):
    """The promises of point [21]."""

    def test_one_core_and_no_picks_is_the_serial_order(self):
        for program, words in [*drawn_programs(200), *drawn_forks(100)]:
            plan, end, steals, failures, delays = stolen_run(program, words, 1, ())
            self.assertEqual(plan, tuple([(name,) for name in serial_deeds(program, words)]))
            self.assertEqual((end, steals, failures, delays), (serial_end(program, words), (), 0, 0))

    def test_calm_runs_without_picks_are_greedy(self):
        for program, words, cores, _ in drawn_runs(150):
            if is_calm(program, words):
                names, graph = serial_deeds(program, words), graph_of(program, words)
                plan = stolen_run(program, words, cores, ())[0]
                schedule = tuple([tuple(sorted([names.index(name) for name in step])) for step in plan])
                self.assertIs(is_schedule(graph, cores, schedule), True)
                self.assertIs(is_greedy(graph, cores, schedule), True)
                self.assertLessEqual(cores * len(plan), work(graph) + (cores - 1) * span(graph))

    def test_each_core_does_one_thing_in_each_step(self):
        for program, words, cores, picks in drawn_runs(150):
            plan, _, steals, failures, delays = stolen_run(program, words, cores, picks)
            self.assertEqual(cores * len(plan), sum(map(len, plan)) + failures + delays)
            self.assertLessEqual(len(steals), sum(map(len, plan)))
            self.assertEqual(delays, len([k for k in picks[:cores * len(plan)] if k % 5 == 4]))

    def test_calm_runs_leave_the_words_of_the_serial_run(self):
        for program, words, cores, picks in drawn_runs(150):
            plan, end, _, _, _ = stolen_run(program, words, cores, picks)
            self.assertEqual(run_plan(program, words, plan)[0], end)
            self.assertIs(finished(program, words, plan), True)
            if is_calm(program, words):
                self.assertEqual(end, serial_end(program, words))

    def test_the_rows_of_calm_runs_without_starts(self):
        longest = 0
        for program, words, cores, picks in drawn_runs(150):
            names = serial_deeds(program, words)
            bound = row_bound(program, words)
            self.assertEqual(bound, max([len(rows_at(program, words, 1, (), k)[0]) for k in range(len(names) + 1)]))
            if is_calm(program, words) and "start" not in [kind_of(program, words, name) for name in names]:
                for step in range(len(stolen_run(program, words, cores, picks)[0]) + 1):
                    rows = rows_at(program, words, cores, picks, step)
                    longest = max(longest, *[len(row) for row in rows])
                    self.assertLessEqual(max([len(row) for row in rows]), bound)
        self.assertGreater(longest, 3)

    def test_row_bounds(self):
        for text, bound in (
            ("", 0), ("a=1", 1), (FORK, 2), (FOUR, 4), ("each i<6{a+=1}", 6), ("fold a + i<5:$i", 5), ("start t{a=1}", 1),
            ("start t{a=1};b=1", 2), ("fork{}{fork{}{a=1}{b=1}}{c=1}", 3), ("fork{a=1}{fork{a+=1}{b=1}{c=1}{d=1}}", 4),
            ("fork{fork{a=1}{b=1}{c=1}}{d=1}{e=1}", 5),
        ):
            self.assertEqual(row_bound(read_program(text), ()), bound, text)


class Errors(Refusals, unittest.TestCase):
    FUNCTIONS = (
        row_bound,
        lambda program, words: stolen_run(program, words, 2, ()),
        lambda program, words: rows_at(program, words, 2, (), 0),
        lambda program, words: rows_at(program, words, 2, (), None),
        lambda program, words: rows_at(program, words, 2, (), -1),
    )


if __name__ == "__main__":
    unittest.main()
