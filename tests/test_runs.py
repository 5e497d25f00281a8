"""Points [15] and [16]: runs by plans, plans by picks, and all ends."""

import itertools
import random
import unittest

from forkspan.errors import NotReady
from forkspan.graphs import graph_of
from forkspan.programtext import read_program
from forkspan.runs import all_ends, finished, first_ready, picked_run, plan_of, run_plan
from forkspan.schedules import listed
from forkspan.serial import serial_deeds, serial_end
from tests.drawn import drawn_forks, drawn_programs
from tests.plain import Plain
from tests.refusals import Refusals
from tests.samples import with_few_calls

FORK = "fork{a=1}{b=2};c=a+b"

# Programs no run of which has more than 9 deeds, most of them with several ends.
SMALL = (
    "", "a=1", "fork{a=1}{a=2}", "fork{a=1}{b=a}", "fork{a=b}{b=a}{c=a+b}", "fork{a=a+1}{a=a+1}{a=a*3}",
    "fork{a+=1}{a*=2}{a max=3}{a min=2}", "fork{a=1;a+=a}{a=2;a+=a}", "each i<6{a=(a*10)+$i}", "each i<3{a+=1;b=a*$i}",
    "fork{if a{b=1}{b=2;c=1}}{a=1}", "fork{each i<a{c+=1}}{a=1}{a=2}", "start t{a=1};a=2;await t;b=a",
    "start t{a=1;a=2};start t{b=a};await t;c=b", "fork{a=6}{fold c - i<2:a+$i}", "fold c + i<a:b;start t{c=1}",
    "fork{start t{a=1}}{a=2};a+=3", "start t{start u{a=1};a=2};await t;a=3", "a=0-1;fork{a+=1}{b=a=0}",
)


def all_plain_ends(program, words, most=9):
    """The words behind all plans of one deed a step, each plan done anew; None if one has more deeds than most."""
    ends = set()
    waiting = [()]
    while waiting:
        done = waiting.pop()
        if len(done) > most:
            return None
        plain = Plain(program, words)
        for name in done:
            plain.do(name)
        if not plain.ready():
            ends.add(plain.end())
        waiting += [done + (name,) for name in plain.ready()]
    return tuple(sorted(ends))


def plain_picked(program, words, cores, picks):
    """The plan that picks make, word by word as the point says."""
    plain = Plain(program, words)
    plan = []
    while plain.ready():
        left = plain.ready()
        k = picks[len(plan)] if len(plan) < len(picks) else 0
        step = []
        for place in range(1, 2 + k % min(len(left), cores)):
            step.append(left.pop(k // 8 ** place % len(left)))
        for name in step:
            plain.do(name)
        plan.append(tuple(step))
    return tuple(plan)


class RunPlan(unittest.TestCase):
    def assert_run(self, text, plan, words, done, ready, given=()):
        program = read_program(text)
        self.assertEqual(run_plan(program, given, plan), (words, done, ready))
        self.assertIs(finished(program, given, plan), ready == ())

    def test_an_example_as_it_goes_on(self):
        plan = (((0,),), ((0, 1, 0), (0, 0, 0)), ((0, -1),), ((1,),))
        for many, words, ready in (
            (0, (("c", 5),), ((0,),)),
            (1, (("c", 5),), ((0, 0, 0), (0, 1, 0))),
            (2, (("a", 1), ("b", 2), ("c", 5)), ((0, -1),)),
            (3, (("a", 1), ("b", 2), ("c", 5)), ((1,),)),
            (4, (("a", 1), ("b", 2), ("c", 3)), ()),
        ):
            done = tuple([name for step in plan[:many] for name in step])
            self.assert_run(FORK, plan[:many], words, done, ready, (("c", 5),))

    def test_lists_and_tuples(self):
        program = read_program(FORK)
        told = run_plan(program, (), (((0,),), ((0, 1, 0),), ()))
        for plan in ([((0,),), ((0, 1, 0),), ()], ([(0,)], [(0, 1, 0)], []), [[(0,)], [(0, 1, 0)], []]):
            before = repr(plan)
            self.assertEqual(run_plan(program, (), plan), told)
            self.assertIs(finished(program, (), plan), False)
            self.assertEqual(repr(plan), before)
        self.assertEqual(run_plan(program=program, words=(), plan=[[(0,)], [(0, 1, 0)]]), told)
        self.assertIs(finished(program=program, words=(), plan=[]), False)

    def test_no_statement(self):
        self.assert_run("", (), (("a", 7),), (), (), (("a", 7),))
        self.assert_run("", ((), ()), (), (), ())

    def test_empty_steps(self):
        self.assert_run("a=1;b=1", ((), ((0,),), (), (), ((1,),), ()), (("a", 1), ("b", 1)), ((0,), (1,)), ())

    def test_the_ready_ones_are_ascending(self):
        self.assert_run("fork{fork{}}{a=1}", (((0,),), ((0, 0, 0),)), (), ((0,), (0, 0, 0)), ((0, 0, 0, -1), (0, 1, 0)))
        self.assert_run("start t{a=1};b=1", (((0,),),), (), ((0,),), ((0, 0, 0), (1,)))
        self.assert_run("fork{}{}", (((0,),),), (), ((0,),), ((0, -1),))

    def test_a_deed_reads_what_those_ahead_in_its_step_left(self):
        self.assert_run(
            "fork{a=1}{b=a}", (((0,),), ((0, 0, 0), (0, 1, 0))), (("a", 1), ("b", 1)),
            ((0,), (0, 0, 0), (0, 1, 0)), ((0, -1),))
        self.assert_run(
            "fork{a=1}{b=a}", (((0,),), ((0, 1, 0), (0, 0, 0))), (("a", 1),),
            ((0,), (0, 1, 0), (0, 0, 0)), ((0, -1),))
        self.assert_run(
            "fork{a=a+1}{a=a*2}", (((0,),), ((0, 1, 0), (0, 0, 0)), ((0, -1),)), (("a", 7),),
            ((0,), (0, 1, 0), (0, 0, 0), (0, -1)), (), (("a", 3),))

    def test_blocks_hang_on_the_words_at_the_time(self):
        text = "fork{a=1}{if a{b=1}{c=1}}"
        self.assert_run(text, (((0,),), ((0, 0, 0),), ((0, 1, 0),)), (("a", 1),), (
            (0,), (0, 0, 0), (0, 1, 0)), ((0, 1, 0, 0, 0),))
        self.assert_run(text, (((0,),), ((0, 1, 0),), ((0, 0, 0),)), (("a", 1),), (
            (0,), (0, 1, 0), (0, 0, 0)), ((0, 1, 0, 1, 0),))
        text = "fork{a=2}{each i<a{b+=1}}"
        self.assert_run(text, (((0,),), ((0, 1, 0),)), (), ((0,), (0, 1, 0)), ((0, 0, 0), (0, 1, 0, -1)))
        self.assert_run(text, (((0,),), ((0, 0, 0), (0, 1, 0))), (("a", 2),), (
            (0,), (0, 0, 0), (0, 1, 0)), ((0, 1, 0, 0, 0), (0, 1, 0, 1, 0)))

    def test_an_await_waits_for_the_last_deed_of_the_block(self):
        text = "start t{a=1;b=1};await t"
        self.assert_run(text, (((0,),),), (), ((0,),), ((0, 0, 0),))
        self.assert_run(text, (((0,),), ((0, 0, 0),)), (("a", 1),), ((0,), (0, 0, 0)), ((0, 0, 1),))
        self.assert_run(text, (((0,),), ((0, 0, 0),), ((0, 0, 1),)), (("a", 1), ("b", 1)), (
            (0,), (0, 0, 0), (0, 0, 1)), ((1,),))

    def test_pairs_wait_for_both(self):
        text = "fold a - i<3:$i+5"
        done = ((0,), (0, 1), (0, 2))
        self.assert_run(text, [[name] for name in done], (), done, ((0, 0), (0, 1, 3)))
        done += ((0, 1, 3), (0, 0), (0, 0, 3))
        self.assert_run(text, [[name] for name in done], (), done, ((0, -1),))
        self.assert_run(text, [[name] for name in done + ((0, -1),)], (("a", 6),), done + ((0, -1),), ())

    def test_first_ready(self):
        for text, told in (("", ()), ("a=1;b=1", ((0,),)), ("fork{}", ((0,),)), ("start t{};await t", ((0,),))):
            self.assertEqual(first_ready(read_program(text), (("a", 1),)), told)
        self.assertEqual(first_ready(program=(), words=()), ())

    def test_drawn_runs_against_plain_ones(self):
        for seed, (program, words) in enumerate(drawn_programs(150)):
            numbers = random.Random(seed)
            plain, plan = Plain(program, words), []
            while plain.ready() and len(plain.results) < 60:
                step = numbers.sample(plain.ready(), numbers.randint(0, min(4, len(plain.ready()))))
                for name in step:
                    plain.do(name)
                plan.append(step)
            told = (plain.end(), tuple(plain.results), tuple(plain.ready()))
            self.assertEqual(run_plan(program, words, plan), told)
            self.assertEqual(run_plan(program, words, tuple(plan)), told)
            self.assertIs(finished(program, words, plan), plain.ready() == [])

    def test_few_calls_in_the_deepest_programs(self):
        program = read_program("if 1{" * 40 + "a=1" + "}{}" * 40)
        plan = [[name] for name in serial_deeds(program, ())]
        self.assertEqual(with_few_calls(run_plan, program, (), plan)[0], (("a", 1),))


class Unready(unittest.TestCase):
    def assert_unready(self, text, plan, step, deed, words=()):
        program = read_program(text)
        for function in (run_plan, finished):
            for told in (plan, [list(names) for names in plan]):
                with self.assertRaises(NotReady) as caught:
                    function(program, words, told)
                self.assertEqual((caught.exception.step, caught.exception.deed), (step, deed))

    def test_what_is_no_deed(self):
        for name in ((), (1,), (-1,), (0, 0), (0, -1), (0, 0, 0), (7, 7, 7), (10 ** 30,), (-(10 ** 30), 0), (0,) * 40):
            self.assert_unready("a=1", ((name,),), 0, name)
            self.assert_unready("a=1", ((), ((0,),), (name,)), 2, name)
        self.assert_unready("", (((0,),),), 0, (0,))

    def test_what_is_done(self):
        self.assert_unready("a=1;b=1", (((0,),), ((0,),)), 1, (0,))
        self.assert_unready("a=1;b=1", (((0,),), ((1,),), (), ((0,),)), 3, (0,))

    def test_what_waits(self):
        self.assert_unready("fork{a=1}{b=1}", (((0,),), ((0, 0, 0),), ((0, -1),)), 2, (0, -1))
        self.assert_unready("start t{a=1};await t", (((0,),), ((1,),)), 1, (1,))
        self.assert_unready("fold a + i<2:1", (((0,),), ((0, 0),), ((0, 0, 2),)), 2, (0, 0, 2))

    def test_the_other_block_of_an_if(self):
        self.assert_unready("if a{b=1}{c=1}", (((0,),), ((0, 0, 0),)), 1, (0, 0, 0))
        self.assert_unready("if a{b=1}{c=1}", (((0,),), ((0, 1, 0),)), 1, (0, 1, 0), (("a", 1),))

    def test_what_becomes_ready_within_the_step(self):
        self.assert_unready("a=1;b=1", (((0,), (1,)),), 0, (1,))
        self.assert_unready("fork{a=1}{b=1}", (((0,),), ((0, 0, 0), (0, 1, 0), (0, -1))), 1, (0, -1))

    def test_twice_in_a_step(self):
        self.assert_unready("a=1", (((0,), (0,)),), 0, (0,))
        self.assert_unready("fork{a=1}{b=1}", (((0,),), ((0, 0, 0), (0, 1, 0), (0, 0, 0))), 1, (0, 0, 0))
        self.assert_unready("fork{a=1}{b=1}", (((0,),), ((0, 0, 0), (0, 1, 0), (0, 1, 0))), 1, (0, 1, 0))

    def test_the_first_one_in_the_order_told(self):
        self.assert_unready("fork{a=1}{b=1}", (((0,),), ((0, 0, 0), (9,), (0, -1))), 1, (9,))
        self.assert_unready("fork{a=1}{b=1}", (((0,),), ((0, 0, 0), (0, -1), (9,))), 1, (0, -1))
        self.assert_unready("fork{a=1}{b=1}", (((0,), (0, 0, 0)), ((9,),)), 0, (0, 0, 0))
        # Of a step the first deed that comes twice in it stands ahead of the one that is not ready.
        self.assert_unready("fork{a=1}{b=1}", (((0,),), ((0, 0, 0), (9,), (0, 0, 0))), 1, (0, 0, 0))
        self.assert_unready("fork{a=1}{b=1}", (((0,),), ((9,), (0, 0, 0), (0, 0, 0))), 1, (9,))


class PlanOf(unittest.TestCase):
    def test_an_example(self):
        program = read_program(FORK)
        plan = plan_of(program, (), ((0,), (), (1, 2), (3,), (4,)))
        self.assertEqual(plan, (((0,),), (), ((0, 0, 0), (0, 1, 0)), ((0, -1),), ((1,),)))
        self.assertEqual(plan_of(program=(), words=(), schedule=((), ())), ((), ()))
        self.assertEqual(plan_of((), (), ()), ())

    def test_drawn_schedules_of_calm_programs_run(self):
        for seed, (program, words) in enumerate(drawn_programs(60)):
            graph = graph_of(program, words)
            order = random.Random(seed).sample(range(len(graph)), len(graph))
            schedule = listed(graph, 2, order)
            names = serial_deeds(program, words)
            plan = plan_of(program, words, schedule)
            self.assertEqual(plan, tuple([tuple([names[node] for node in step]) for step in schedule]))
        serial = tuple([(node,) for node in range(len(graph))])
        self.assertEqual(run_plan(program, words, plan_of(program, words, serial))[0], serial_end(program, words))


class Picked(unittest.TestCase):
    def test_without_picks_the_least_ready_one_in_each_step(self):
        program = read_program(FORK)
        told = (((0,),), ((0, 0, 0),), ((0, 1, 0),), ((0, -1),), ((1,),))
        self.assertEqual(picked_run(program, (), 3, ()), told)
        self.assertEqual(picked_run(program, (), 3, (0, 0)), told)
        self.assertEqual(picked_run((), (), 3, (5, 5)), ())
        # A join's name stands ahead of all others of its statement.
        self.assertEqual(picked_run(read_program("start t{fork{}};a=1"), (), 1, ()), (
            ((0,),), ((0, 0, 0),), ((0, 0, 0, -1),), ((1,),)))

    def test_figures_of_a_pick(self):
        program = read_program("fork{a=1}{b=1}{c=1}{d=1}")
        names = [(0, b, 0) for b in range(4)]
        for cores, pick, step in (
            (4, 3, (0, 1, 2, 3)), (4, 27, (3, 0, 1, 2)), (4, 586, (1, 0, 3)), (4, 21131, (1, 0, 3, 2)), (4, 16, (2,)),
            (4, 60, (3,)), (3, 2, (0, 1, 2)), (3, 19, (2, 0)), (3, 60, (3,)), (2, 7, (0, 1)), (2, 6, (0,)), (1, 15, (1,)),
            (6, 43, (1, 0, 2, 3)), (6, 327, (0, 3, 1, 2)), (6, 8 ** 5, (0,)), (6, 8 ** 5 + 1, (0, 3)),
        ):
            plan = picked_run(program, (), cores, (0, pick))
            self.assertEqual(plan[1], tuple([names[k] for k in step]), (cores, pick))
            self.assertEqual(plan[0], ((0,),))

    def test_lists_and_names(self):
        program = read_program(FORK)
        picks = [0, 9]
        told = (((0,),), ((0, 1, 0), (0, 0, 0)), ((0, -1),), ((1,),))
        self.assertEqual(picked_run(program=program, words=(), cores=2, picks=picks), told)
        self.assertEqual(picked_run(program, (), 2, (0, 9)), told)
        self.assertEqual(picks, [0, 9])

    def test_picks_used_up_and_too_many(self):
        program = read_program("fork{a=1}{b=1}{c=1}")
        self.assertEqual(picked_run(program, (), 2, [0, 1]), (
            ((0,),), ((0, 0, 0), (0, 1, 0)), ((0, 2, 0),), ((0, -1),)))
        self.assertEqual(picked_run(program, (), 2, [0, 1] + [0] * 198), picked_run(program, (), 2, [0, 1]))

    def test_drawn_picks(self):
        for seed, (program, words) in enumerate(drawn_programs(120)):
            numbers = random.Random(seed)
            cores = numbers.randint(1, 6)
            picks = [numbers.randrange(8 ** numbers.randint(0, 9)) for _ in range(numbers.randint(0, 40))]
            if len(serial_deeds(program, words)) < 40:
                plan = picked_run(program, words, cores, picks)
                self.assertEqual(plan, plain_picked(program, words, cores, picks))
                self.assertEqual(picked_run(program, words, cores, tuple(picks)), plan)
                self.assertIs(finished(program, words, plan), True)
                self.assertTrue(all([1 <= len(step) <= cores for step in plan]))

    def test_every_plan_comes_by_some_picks(self):
        for text in ("fork{a=1}{if a{b=1}{}}{c=1}", "start t{a=1};fold b + i<2:a", "each i<3{a=a*$i}"):
            program = read_program(text)
            for cores in (1, 2, 3):
                for plan in self.all_plans(program, cores):
                    picks = self.picks_of(program, cores, plan)
                    self.assertEqual(picked_run(program, (), cores, picks), plan)

    def picks_of(self, program, cores, plan):
        plain = Plain(program, ())
        picks = []
        for step in plan:
            left = plain.ready()
            wanted = [(len(step) - 1, min(len(left), cores))]
            for name in step:
                wanted.append((left.index(name), len(left)))
                left.remove(name)
                plain.do(name)
            # From the last one on, since each number holds all later ones.
            pick = 0
            for rest, many in wanted[::-1]:
                pick = [8 * pick + k for k in range(8) if (8 * pick + k) % many == rest][0]
            picks.append(pick)
        return picks

    def all_plans(self, program, cores):
        found = set()
        waiting = [()]
        while waiting:
            plan = waiting.pop()
            plain = Plain(program, ())
            for step in plan:
                for name in step:
                    plain.do(name)
            if not plain.ready():
                found.add(plan)
            for many in range(1, cores + 1):
                waiting += [plan + (step,) for step in itertools.permutations(plain.ready(), many)]
        return found


class AllEnds(unittest.TestCase):
    def test_an_example(self):
        self.assertEqual(all_ends(read_program("fork{a=1}{a=2}"), ()), ((("a", 1),), (("a", 2),)))
        self.assertEqual(all_ends(read_program("fork{a=1}{b=a}"), ()), ((("a", 1),), (("a", 1), ("b", 1))))
        self.assertEqual(all_ends(read_program(FORK), ()), ((("a", 1), ("b", 2), ("c", 3)),))
        self.assertEqual(all_ends(program=(), words=(("a", 3),)), ((("a", 3),),))
        self.assertEqual(all_ends((), ()), ((),))

    def test_each_once_ascending(self):
        # Words without a come ahead although the value 0 is told last.
        ends = all_ends(read_program("fork{a=0}{a=2}{a=1}{a=2}"), (("b", 1),))
        self.assertEqual(ends, ((("a", 1), ("b", 1)), (("a", 2), ("b", 1)), (("b", 1),)))

    def test_small_programs(self):
        for text in SMALL:
            program = read_program(text)
            for words in ((), (("a", 2), ("b", 3))):
                self.assertLessEqual(len(serial_deeds(program, words)), 9)
                ends = all_plain_ends(program, words)
                self.assertEqual(all_ends(program, words), ends, text)
                self.assertIn(serial_end(program, words), ends)

    def test_many_orders(self):
        program = read_program("each i<6{a=(a*10)+($i+1)};b=1")
        ends = {int("".join(order)) for order in itertools.permutations("123456")}
        self.assertEqual([words[0] for words in all_ends(program, ())], [("a", end) for end in sorted(ends)])

    def test_drawn_programs(self):
        several = 0
        for program, words in drawn_forks(300):
            ends = all_plain_ends(program, words)
            if ends is not None:
                several += len(ends) > 1
                self.assertEqual(all_ends(program, words), ends)
        self.assertGreater(several, 5)


class Errors(Refusals, unittest.TestCase):
    FUNCTIONS = (
        first_ready, all_ends,
        lambda program, words: run_plan(program, words, [[(9, 9)]]),
        lambda program, words: finished(program, words, [[(9, 9)]]),
        lambda program, words: plan_of(program, words, ()),
        lambda program, words: picked_run(program, words, 2, ()),
    )


if __name__ == "__main__":
    unittest.main()
