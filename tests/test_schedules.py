"""Points [13] and [14]: schedules, the greedy ones, and their bound."""

import itertools
import random
import unittest

from forkspan.errors import InvalidGraph
from forkspan.graphs import graph_of, span, work
from forkspan.programtext import read_program
from forkspan.schedules import cut_down, idle, is_greedy, is_schedule, listed, ready, step_bound
from tests.drawn import all_graphs, drawn_graphs, drawn_programs
from tests.samples import NO_TUPLES, deep
from tests.test_graphs import NO_GRAPHS

GRAPH = ((), (), (0,), (0, 1), (3,))


def all_schedules(graph, cores, empty_steps):
    """All schedules of a graph with at most so many empty steps."""
    def behind(done, left):
        if len(done) == len(graph):
            yield ()
        may = [node for node, row in enumerate(graph) if node not in done and all([ahead in done for ahead in row])]
        for many in range(0 if left else 1, min(cores, len(may)) + 1):
            for step in itertools.combinations(may, many):
                for rest in behind(done + step, left if many else left - 1):
                    yield (step,) + rest
        if left and not may:
            for rest in behind(done, left - 1):
                yield ((),) + rest

    return set(behind((), empty_steps))


def greedy(graph, cores, schedule):
    """Whether a schedule is greedy, word by word as the point says."""
    done = set()
    for step in schedule:
        may = {node for node, row in enumerate(graph) if node not in done and done.issuperset(row)}
        if not step or (len(step) != cores and set(step) != may):
            return False
        done.update(step)
    return True


class IsSchedule(unittest.TestCase):
    def test_an_example(self):
        for schedule in (
            ((0, 1), (2, 3), (4,)), ((0,), (1,), (2,), (3,), (4,)), ((1,), (0,), (3,), (2, 4)), ((), (0, 1), (), (2, 3), (4,), ()),
        ):
            self.assertIs(is_schedule(GRAPH, 2, schedule), True)
        self.assertIs(is_schedule(graph=GRAPH, cores=1, value=((0,), (1,), (2,), (3,), (4,))), True)

    def test_wrong_ones(self):
        for value in (
            ((0, 1), (2, 3)), ((0, 1), (2, 3), (4,), (4,)), ((0, 1), (2, 3, 4)), ((0, 1), (3, 2), (4,)), ((0, 2), (1,), (3,), (4,)),
            ((0,), (1, 3), (2, 4)), ((0,), (2, 3), (1, 4)), ((0, 1), (2, 3), (4, 5)), ((0, 1), (2, 3), (4,), (5,)),
            ((0, 1), (2, 3), (-1,)), ((0, 1), (2, 2), (3,), (4,)), ((0, 0), (1,), (2, 3), (4,)), ((4,), (3, 2), (1, 0)),
            ((0, 1), (2, 3), 4), ((0, 1), (2, 3), [4]), [(0, 1), (2, 3), (4,)], ((0, 1), (2, 3), (None,)), ((0, 1), (2, 3), ("4",)),
            ((0, True), (2, 3), (4,)), ((False, 1), (2, 3), (4,)), ((0, 1), (2, 3), (4,), None), ((0, 1), (2, 3), (4,), ""),
            ((0, 1), (2, 3), (4,), 0), ((0, 1), (2, 3), (4,), [])
        ):
            self.assertIs(is_schedule(GRAPH, 2, value), False, value)

    def test_more_nodes_than_cores(self):
        schedule = ((0, 1), (2, 3), (4,))
        self.assertEqual([is_schedule(GRAPH, cores, schedule) for cores in range(1, 7)], [False] + [True] * 5)
        self.assertEqual([is_schedule(((),) * 6, cores, (tuple(range(6)),)) for cores in range(1, 7)], [False] * 5 + [True])

    def test_an_empty_graph(self):
        for value in ((), ((),), ((), (), ())):
            self.assertIs(is_schedule((), 1, value), True)
        for value in (((0,),), ((), (0,)), (0,), [], None, ""):
            self.assertIs(is_schedule((), 1, value), False)

    def test_any_value_at_all(self):
        for value in NO_TUPLES + NO_GRAPHS[len(NO_TUPLES):] + (deep(60, tuple), (deep(59, tuple), (0,))):
            self.assertIs(is_schedule(GRAPH, 2, value), False)

    def test_all_of_small_graphs(self):
        for graph in all_graphs(3):
            steps = [step for many in range(4) for step in itertools.product(range(len(graph) + 1), repeat=many)]
            for cores in (1, 2, 3):
                right = all_schedules(graph, cores, 1)
                for value in itertools.chain(*[itertools.product(steps[:25], repeat=many) for many in range(3)], right):
                    if sum([step == () for step in value]) < 2:
                        self.assertIs(is_schedule(graph, cores, value), value in right, (graph, cores, value))


class Greedy(unittest.TestCase):
    def test_an_example(self):
        self.assertIs(is_greedy(GRAPH, 2, ((0, 1), (2, 3), (4,))), True)
        self.assertIs(is_greedy(GRAPH, 2, ((0, 1), (3,), (2, 4))), False)
        self.assertIs(is_greedy(GRAPH, 1, ((1,), (0,), (3,), (4,), (2,))), True)
        self.assertIs(is_greedy(GRAPH, 3, ((0, 1), (2, 3), (4,))), True)
        self.assertIs(is_greedy(graph=GRAPH, cores=3, schedule=((0, 1), (3,), (2, 4))), False)

    def test_what_is_no_schedule_for_so_many_cores_is_no_greedy_one(self):
        self.assertIs(is_greedy(GRAPH, 1, ((0, 1), (2, 3), (4,))), False)
        self.assertIs(is_greedy(GRAPH, 2, ((0, 1), (2, 3))), False)

    def test_an_empty_step(self):
        self.assertIs(is_greedy(GRAPH, 2, ((0, 1), (2, 3), (4,), ())), False)
        self.assertIs(is_greedy(GRAPH, 2, ((), (0, 1), (2, 3), (4,))), False)
        self.assertIs(is_greedy((), 2, ()), True)
        self.assertIs(is_greedy((), 2, ((),)), False)

    def test_all_of_small_graphs(self):
        for graph in all_graphs(4):
            for cores in (1, 2, 3):
                for schedule in all_schedules(graph, cores, 0):
                    self.assertIs(is_greedy(graph, cores, schedule), greedy(graph, cores, schedule))

    def test_no_greedy_one_is_longer_than_the_bound(self):
        for graph in all_graphs(4):
            for cores in (1, 2, 3):
                for schedule in all_schedules(graph, cores, 0):
                    if is_greedy(graph, cores, schedule):
                        self.assertLessEqual(cores * len(schedule), work(graph) + (cores - 1) * span(graph))
                        self.assertLessEqual(len(schedule), step_bound(graph, cores))


class Ready(unittest.TestCase):
    def test_an_example(self):
        for done, told in (
            ((), (0, 1)), ((0,), (1, 2)), ((1,), (0,)), ((0, 1), (2, 3)), ((1, 0), (2, 3)), ((3, 0, 1), (2, 4)), ((0, 1, 2, 3, 4), ()),
        ):
            self.assertEqual(ready(GRAPH, done), told)
            self.assertEqual(ready(GRAPH, list(done)), told)
        self.assertEqual(ready(graph=GRAPH, done=[0]), (1, 2))
        self.assertEqual(ready((), ()), ())

    def test_only_those_directly_ahead_count(self):
        self.assertEqual(ready(((), (0,), (1,)), (1,)), (0, 2))

    def test_all_sets_of_small_graphs(self):
        for graph in all_graphs(4):
            for many in range(len(graph) + 1):
                for done in itertools.combinations(range(len(graph)), many):
                    told = tuple([k for k in range(len(graph)) if k not in done and set(graph[k]) <= set(done)])
                    self.assertEqual(ready(graph, done), told)
                    self.assertEqual(ready(graph, list(done[::-1])), told)


class Listed(unittest.TestCase):
    def test_an_example(self):
        self.assertEqual(listed(GRAPH, 2, (0, 1, 2, 3, 4)), ((0, 1), (2, 3), (4,)))
        self.assertEqual(listed(GRAPH, 2, (4, 3, 2, 1, 0)), ((0, 1), (2, 3), (4,)))
        self.assertEqual(listed(GRAPH, 1, (4, 3, 2, 1, 0)), ((1,), (0,), (3,), (4,), (2,)))
        self.assertEqual(listed(GRAPH, 6, (4, 3, 2, 1, 0)), ((0, 1), (2, 3), (4,)))
        self.assertEqual(listed(((),) * 4, 2, (3, 0, 2, 1)), ((0, 3), (1, 2)))
        self.assertEqual(listed(graph=GRAPH, cores=1, order=[1, 0, 2, 3, 4]), ((1,), (0,), (2,), (3,), (4,)))
        self.assertEqual(listed((), 3, ()), ())

    def test_the_order_stays_as_it_is(self):
        order = [4, 3, 2, 1, 0]
        done = [1, 0]
        self.assertEqual(listed(GRAPH, 2, order), listed(GRAPH, 2, tuple(order)))
        self.assertEqual(ready(GRAPH, done), ready(GRAPH, tuple(done)))
        self.assertEqual((order, done), ([4, 3, 2, 1, 0], [1, 0]))

    def test_all_orders_of_small_graphs(self):
        for graph in all_graphs(4):
            for order in itertools.permutations(range(len(graph))):
                for cores in (1, 2, 3):
                    schedule = listed(graph, cores, order)
                    self.assertTrue(is_schedule(graph, cores, schedule))
                    self.assertTrue(greedy(graph, cores, schedule))
                    done = []
                    for step in schedule:
                        first = [node for node in order if node in ready(graph, done)][:cores]
                        self.assertEqual(step, tuple(sorted(first)))
                        done += step

    def test_drawn_programs(self):
        for program, words in drawn_programs(100):
            graph = graph_of(program, words)
            for cores in range(1, 7):
                schedule = listed(graph, cores, list(range(len(graph))))
                self.assertIs(is_schedule(graph, cores, schedule), True)
                self.assertIs(is_greedy(graph, cores, schedule), True)
                self.assertLessEqual(len(schedule), step_bound(graph, cores))


class Bounds(unittest.TestCase):
    def test_the_number_of_steps(self):
        self.assertEqual([step_bound(GRAPH, cores) for cores in range(1, 7)], [5, 4, 3, 3, 3, 3])
        self.assertEqual([step_bound((), cores) for cores in range(1, 7)], [0] * 6)
        self.assertEqual([step_bound(((),) * 7, cores) for cores in range(1, 7)], [7, 4, 3, 2, 2, 2])
        self.assertEqual(step_bound(graph=GRAPH, cores=2), 4)
        for graph in all_graphs(4):
            for cores in range(1, 7):
                bound = work(graph) + (cores - 1) * span(graph)
                greatest = max([steps for steps in range(20) if cores * steps <= bound])
                self.assertEqual(step_bound(graph, cores), greatest)

    def test_idle(self):
        self.assertEqual(idle(((0, 1), (2, 3), (4,)), 2), 1)
        self.assertEqual(idle(((0, 1), (), (2, 3), (4,), ()), 3), 10)
        self.assertEqual(idle((), 3), 0)
        self.assertEqual(idle(((), ()), 3), 6)
        self.assertEqual(idle(schedule=((0,), (1,)), cores=1), 0)


class CutDown(unittest.TestCase):
    def test_an_example(self):
        self.assertEqual(cut_down(GRAPH, 2, ((), (1,), (), (0,), (3,), (2, 4), ())), ((0, 1), (2, 3), (4,)))
        self.assertEqual(cut_down(GRAPH, 1, ((1,), (), (0,), (3,), (4,), (2,))), ((1,), (0,), (3,), (4,), (2,)))
        self.assertEqual(cut_down(graph=(), cores=2, schedule=((), ())), ())
        # Within a step ascending.
        self.assertEqual(cut_down(((),) * 4, 3, ((1,), (0, 2, 3))), ((0, 1, 2), (3,)))

    def assert_cut_down(self, graph, cores, schedule):
        short = cut_down(graph, cores, schedule)
        self.assertTrue(is_schedule(graph, cores, short))
        self.assertTrue(greedy(graph, cores, short))
        self.assertLessEqual(len(short), len(schedule))
        self.assertEqual(short, listed(graph, cores, [node for step in schedule for node in sorted(step)]))
        if greedy(graph, cores, schedule):
            self.assertEqual(len(short), len(schedule))

    def test_never_longer(self):
        for graph in all_graphs(4):
            for cores in (1, 2, 3):
                for schedule in all_schedules(graph, cores, 0):
                    self.assert_cut_down(graph, cores, schedule)

    def test_drawn_schedules(self):
        numbers = random.Random(1)
        for graph in drawn_graphs(100, 30):
            cores, done, steps = numbers.randint(1, 6), [], []
            while len(done) < len(graph):
                may = list(ready(graph, done))
                step = numbers.sample(may, numbers.randint(0, min(cores, len(may))))
                steps.append(tuple(sorted(step)))
                done += step
            self.assertTrue(is_schedule(graph, cores, tuple(steps)))
            self.assert_cut_down(graph, cores, tuple(steps))


class Errors(unittest.TestCase):
    def test_no_graph(self):
        for value in NO_GRAPHS:
            for function in (
                lambda: is_schedule(value, 2, ()), lambda: is_schedule(value, 2, value), lambda: is_greedy(value, 2, ()),
                lambda: ready(value, ()), lambda: listed(value, 2, ()), lambda: step_bound(value, 2),
                lambda: cut_down(value, 2, ()),
            ):
                with self.assertRaises(InvalidGraph) as caught:
                    function()
                self.assertIs(caught.exception.value, value)

    def test_the_graph_of_a_program(self):
        graph = graph_of(read_program("fork{a=1;b=1}{c=1}{d=1}"), ())
        self.assertEqual(listed(graph, 2, range(6)), ((0,), (1, 3), (2, 4), (5,)))


if __name__ == "__main__":
    unittest.main()
