"""Points [22] and [23]: the least number of steps, its bounds, and papers that nothing shorter exists."""

import itertools
import random
import unittest

from forkspan.errors import InvalidGraph
from forkspan.graphs import graph_of, heads, span, tails, work
from forkspan.least import (
    area_bound, least, least_holds, least_schedule, length_holds, length_paper, window_bound,
)
from forkspan.programtext import read_program
from forkspan.schedules import is_schedule, step_bound
from tests.drawn import all_graphs, drawn_graphs
from tests.samples import NO_TUPLES, changed, deep, paths
from tests.test_graphs import NO_GRAPHS
from tests.test_schedules import all_schedules

GRAPH = ((), (0,), (0,), (1, 2), (3,))
# For two cores these have more steps than each window tells.
HARD = (
    ((), (), (), (0, 1, 2), (1, 2, 3), (0, 1, 2, 3), (0, 1, 3)),
    ((), (), (), (0, 1, 2), (0, 1, 2, 3), (0, 3), (1, 2, 4, 5), (1, 3), (0, 1, 2, 3, 4)),
)
# What is no integer and no paper, for which nothing but False may come.
NO_PAPERS = NO_TUPLES + (
    (), ("area",) * 2, ("area", 0), ["area"], ("areas",), ("",), (None,), (0,), (True,), ([],), ((),), (("area",),), deep(60, tuple),
    ("way",), ("way", 0), ("way", None), ("way", "way"), ("way", [0]), ("way", (0,), 0), ("way", ("0",)), ("way", (None,)),
    ("way", ([],)), ("way", ((0,),)), ("way", (True,)), ("way", (False,)), ("way", (-1,)), ("way", (5,)), ("way", (10 ** 30,)),
    ("window",), ("window", 0), ("window", 0, 0, 0), ("window", None, 0), ("window", 0, None), ("window", True, 0),
    ("window", 0, False), ("window", [], 0), ("window", (0, 0)), ("window", "0", 0), ("window", -1, 0), ("window", 0, -1),
    ("window", 10 ** 30, 0), ("window", 0, 10 ** 30), ("window", 0, deep(59, tuple)), ("table",), ("table", ()), ("table", 0),
    ("table", None), ("table", "table"), ("table", [((), 0)]), ("table", ((), 0)), ("table", (((), 0),), 0), ("table", ((),)),
    ("table", (((),),)), ("table", (((), 1, 1),)), ("table", ([(), 0],)), ("table", (([], 0),)), ("table", ((None, 0),)),
    ("table", ((0, 0),)), ("table", (((), None),)), ("table", (((), False),)), ("table", (((), "0"),)), ("table", (((), ()),)),
    ("table", (((), 1), ("", 0))), ("table", (((), 1), ((False,), 0))), ("table", (((), 1), (([],), 0))), ("table", deep(59, tuple)),
)


def plain_least(graph, cores):
    """The least schedule of all."""
    return min(all_schedules(graph, cores, 0), key=lambda schedule: (len(schedule), schedule))


def ready_ones(graph, done):
    return [node for node in range(len(graph)) if node not in done and set(graph[node]) <= set(done)]


def is_right_table(graph, cores, n, rows):
    """Whether rows of numbers are a table, word by word as the point says."""
    sets = [done for done, _ in rows]
    if sets != sorted(sets) or len(set(sets)) < len(sets) or ((), n) not in rows:
        return False
    for done, t in rows:
        if list(done) != sorted(set(done)) or not set(done) <= set(range(len(graph))):
            return False
        if not all([set(graph[node]) <= set(done) for node in done]):
            return False
        free = ready_ones(graph, done)
        if t > 0 and not free:
            return False
        if t > 0:
            for step in itertools.combinations(free, min(cores, len(free))):
                behind = tuple(sorted(done + step))
                if not any([other == behind and left >= t - 1 for other, left in rows]):
                    return False
    return True


def whole_table(graph, cores, n):
    """A table for n steps with a row for each set of nodes that may be done, t as great as it may be."""
    rows = {}
    for many in reversed(range(len(graph) + 1)):
        for done in itertools.combinations(range(len(graph)), many):
            if all([set(graph[node]) <= set(done) for node in done]):
                free = ready_ones(graph, done)
                steps = itertools.combinations(free, min(cores, len(free)))
                rows[done] = min([rows[tuple(sorted(done + step))] + 1 for step in steps if step], default=0)
    return tuple(sorted([(done, left - rows[()] + n) for done, left in rows.items()]))


class Least(unittest.TestCase):
    def test_an_example(self):
        self.assertEqual([least(GRAPH, cores) for cores in range(1, 7)], [5, 4, 4, 4, 4, 4])
        self.assertEqual([least(((),) * 9, cores) for cores in range(1, 7)], [9, 5, 3, 3, 2, 2])
        self.assertEqual([least((), cores) for cores in range(1, 7)], [0] * 6)
        self.assertEqual([least(graph, 2) for graph in HARD], [5, 6])
        self.assertEqual(least(graph=GRAPH, cores=2), 4)

    def test_the_first_schedule(self):
        self.assertEqual(least_schedule(GRAPH, 2), ((0,), (1, 2), (3,), (4,)))
        self.assertEqual(least_schedule(GRAPH, 1), ((0,), (1,), (2,), (3,), (4,)))
        self.assertEqual(least_schedule((), 3), ())
        self.assertEqual(least_schedule(graph=((),) * 3, cores=2), ((0,), (1, 2)))
        # A step that is not full stands ahead of the full ones that begin like it.
        self.assertEqual(least_schedule(((),) * 5, 3), ((0, 1), (2, 3, 4)))
        self.assertEqual(least_schedule(((), (), (0,)), 2), ((0,), (1, 2)))
        self.assertEqual(least_schedule(((), (), (1,), (2,)), 2), ((0, 1), (2,), (3,)))
        self.assertEqual(least_schedule(((), (), (1,), (2,)), 1), ((0,), (1,), (2,), (3,)))

    def test_all_small_graphs(self):
        for graph in all_graphs(4):
            for cores in (1, 2, 3, 6):
                first = plain_least(graph, cores)
                self.assertEqual(least(graph, cores), len(first))
                self.assertEqual(least_schedule(graph, cores), first)

    def test_drawn_graphs(self):
        for graph in [*drawn_graphs(250, 6), HARD[0]]:
            for cores in (2, 3):
                first = plain_least(graph, cores)
                self.assertEqual(least(graph, cores), len(first))
                self.assertEqual(least_schedule(graph, cores), first)

    def test_the_graph_of_a_program(self):
        graph = graph_of(read_program("fork{a=1;b=1}{c=1;d=1}{e=1}"), ())
        self.assertEqual([least(graph, cores) for cores in (1, 2, 3)], [7, 5, 4])

    def test_nine_nodes(self):
        for graph in [((),) * 9, ((),) * 5 + ((0, 1, 2, 3, 4),) * 4, *[graph for graph in drawn_graphs(60, 9) if len(graph) > 7]]:
            for cores in range(1, 7):
                n, schedule = least(graph, cores), least_schedule(graph, cores)
                self.assertEqual(len(schedule), n)
                self.assertTrue(all([step for step in schedule]))
                self.assertIs(is_schedule(graph, cores, schedule), True)


class Bounds(unittest.TestCase):
    def test_area(self):
        self.assertEqual([area_bound(GRAPH, cores) for cores in range(1, 7)], [5, 3, 2, 2, 1, 1])
        self.assertEqual([area_bound(((),) * 6, cores) for cores in range(1, 7)], [6, 3, 2, 2, 2, 1])
        self.assertEqual(area_bound(graph=(), cores=3), 0)

    def test_window(self):
        self.assertEqual([window_bound(GRAPH, cores) for cores in range(1, 7)], [5, 4, 4, 4, 4, 4])
        self.assertEqual([window_bound((), cores) for cores in range(1, 7)], [0] * 6)
        # Three nodes between two others: neither the area nor the span tells five steps.
        graph = ((), (0,), (0,), (0,), (1, 2, 3))
        self.assertEqual((area_bound(graph, 2), span(graph), window_bound(graph, 2)), (3, 3, 4))
        self.assertEqual(window_bound(graph=graph, cores=3), 3)

    def test_window_word_by_word(self):
        for graph in [*all_graphs(4), *drawn_graphs(150, 9)]:
            places = list(zip(heads(graph), tails(graph)))
            for cores in (1, 2, 3, 6):
                told = [0]
                for a, b in itertools.product(range(12), repeat=2):
                    many = len([1 for head, tail in places if head >= a and tail >= b])
                    if many:
                        told.append(a + -(-many // cores) + b)
                self.assertEqual(window_bound(graph, cores), max(told))
                self.assertEqual(area_bound(graph, cores), -(-len(graph) // cores))

    def test_each_bound_is_at_most_the_next_one(self):
        for graph in [*all_graphs(4), *drawn_graphs(150, 9), *HARD]:
            steps = []
            for cores in range(1, 7):
                n, window = least(graph, cores), window_bound(graph, cores)
                self.assertLessEqual(area_bound(graph, cores), window)
                self.assertLessEqual(span(graph), window)
                self.assertLessEqual(window, n)
                self.assertLessEqual(n, step_bound(graph, cores))
                steps.append(n)
            self.assertEqual(steps, sorted(steps)[::-1])
            self.assertEqual(steps[0], work(graph))


class Papers(unittest.TestCase):
    def assert_holds(self, graph, cores, n, paper, told):
        self.assertIs(length_holds(graph, cores, n, paper), told, (graph, cores, n, paper))

    def assert_up_to(self, graph, cores, paper, most):
        """The paper holds for numbers up to most alone."""
        for n in range(-3, most + 4):
            self.assert_holds(graph, cores, n, paper, n <= most)
        self.assert_holds(graph, cores, -(10 ** 30), paper, True)
        self.assert_holds(graph, cores, 10 ** 30, paper, False)

    def test_area(self):
        self.assert_up_to(GRAPH, 2, ("area",), 3)
        self.assert_up_to(((),) * 9, 4, ("area",), 3)
        self.assert_up_to((), 4, ("area",), 0)
        self.assertIs(length_holds(graph=GRAPH, cores=2, n=3, paper=("area",)), True)

    def test_way(self):
        self.assert_up_to(GRAPH, 2, ("way", (0, 1, 3, 4)), 4)
        self.assert_up_to(GRAPH, 2, ("way", (0, 2, 3)), 3)
        self.assert_up_to(GRAPH, 2, ("way", (3,)), 1)
        self.assert_up_to(GRAPH, 2, ("way", ()), 0)
        self.assert_up_to((), 2, ("way", ()), 0)
        for nodes in (
            (1, 0), (0, 3), (0, 1, 2), (0, 1, 4), (0, 0), (0, 1, 3, 4, 4), (4, 3, 1, 0), (5,), (-1,), (-5,), (0, 1, 3, 4, 5), (-2, -1),
            (False, 1), (0, True), (0, None), (0, "1"), (0, (1,)), (None,),
        ):
            for n in (-5, 0, 1, 2):
                self.assert_holds(GRAPH, 2, n, ("way", nodes), False)

    def test_window(self):
        graph = ((), (0,), (0,), (0,), (1, 2, 3))
        for a, b, most in ((0, 0, 3), (1, 1, 4), (1, 0, 3), (0, 1, 3), (2, 0, 3), (0, 2, 3)):
            self.assert_up_to(graph, 2, ("window", a, b), most)
        for a, b in ((2, 1), (1, 2), (3, 0), (0, 3), (-1, 0), (0, -1), (True, 1), (1, True), (1, None), (10 ** 30, 0)):
            for n in (-5, 0, 1, 4):
                self.assert_holds(graph, 2, n, ("window", a, b), False)
        self.assert_holds((), 2, 0, ("window", 0, 0), False)
        self.assert_holds((), 2, -1, ("window", 0, 0), False)

    def test_table(self):
        graph = ((), (), (0,))
        rows = (((), 2), ((0, 1), 1), ((0, 1, 2), 0))
        self.assert_holds(graph, 2, 2, ("table", rows), True)
        for n in (-1, 0, 1, 3, True, "2"):
            self.assert_holds(graph, 2, n, ("table", rows), False)
        self.assert_holds(graph, 2, 1, ("table", (((), 1), ((0, 1), 0))), True)
        self.assert_holds(graph, 2, 1, ("table", (((), 1), ((0, 1), 7), ((0, 1, 2), 6))), False)
        self.assert_holds(graph, 2, 1, ("table", (((), 1), ((0, 1), 1), ((0, 1, 2), 0))), True)
        self.assert_holds(graph, 2, 0, ("table", (((), 0),)), True)
        self.assert_holds(graph, 2, -7, ("table", (((), -7),)), True)
        self.assert_holds(graph, 2, 0, ("table", (((), 0), ((0, 2), -4), ((1,), 0))), True)
        for wrong in (
            rows[1:], rows[:1], rows[:2], rows[::-1], rows + rows[2:], rows[:1] + rows, rows + (((2,), 0),), rows + (((3,), 0),),
            rows[:1] + (((0, 1), 0), ((0, 1, 2), 0)), rows[:2] + (((0, 1, 2), 1),), rows[:2] + (((0, 1, 2), -1),),
            (((), 2), ((1, 0), 1), ((0, 1, 2), 0)), (((), 2), ((0, 1), 1), ((0, 1, 1), 0), ((0, 1, 2), 0)),
            (((), 2), ((-1,), 0), ((0, 1), 1), ((0, 1, 2), 0)), (((), 2), ((0,), 1), ((0, 1), 1), ((0, 1, 2), 0)) + (((2,), 0),),
            (((), 2), ((0, 1), True), ((0, 1, 2), 0)), (((), 2), ((0, 1), 1), ((0, 1, 2), False)), (((), 3), ((0, 1), 1), ((0, 1, 2), 0)),
            (((), 2), ((False, 1), 1), ((0, 1, 2), 0)), (((), 2), ((0, 1), 1), ((0, True, 2), 0)), (((), 2), ((0, 1), 1), ((0, 1, 2), None)),
        ):
            self.assert_holds(graph, 2, 2, ("table", wrong), False)
        # Rows that nothing leads to do no harm.
        self.assert_holds(graph, 2, 2, ("table", (((), 2), ((0,), 0), ((0, 1), 1), ((0, 1, 2), 0), ((0, 2), -3), ((1,), 0))), True)
        self.assert_holds(graph, 2, 2, ("table", (((), 2), ((0,), 1), ((0, 1), 1), ((0, 1, 2), 0), ((0, 2), -3), ((1,), 0))), True)
        self.assert_holds(graph, 2, 2, ("table", (((), 2), ((0,), 2), ((0, 1), 1), ((0, 1, 2), 0), ((0, 2), -3), ((1,), 0))), False)

    def test_a_table_for_no_nodes(self):
        self.assert_holds((), 2, 0, ("table", (((), 0),)), True)
        self.assert_holds((), 2, -1, ("table", (((), -1),)), True)
        self.assert_holds((), 2, 1, ("table", (((), 1),)), False)

    def test_tables_of_hard_graphs(self):
        for graph, n in zip(HARD, (5, 6)):
            self.assertEqual(window_bound(graph, 2), n - 1)
            paper = length_paper(graph, 2)
            self.assertEqual(paper[0], "table")
            self.assertTrue(is_right_table(graph, 2, n, paper[1]))
            self.assert_holds(graph, 2, n, paper, True)
            self.assert_holds(graph, 2, n, ("table", whole_table(graph, 2, n)), True)
            self.assert_holds(graph, 2, n - 2, ("table", whole_table(graph, 2, n - 2)), True)
            self.assert_holds(graph, 2, n + 1, ("table", whole_table(graph, 2, n + 1)), False)

    def test_changed_tables_word_by_word(self):
        rights = {True: 0, False: 0}
        for seed, graph in enumerate([*drawn_graphs(150, 6), *HARD]):
            numbers = random.Random(seed)
            cores = numbers.randint(1, 3)
            n = least(graph, cores) - numbers.choice((0, 0, 1))
            rows = whole_table(graph, cores, n)
            self.assert_holds(graph, cores, n, ("table", rows), True)
            for _ in range(6):
                other = list(rows)
                at = numbers.randrange(len(rows))
                kind = numbers.randrange(5)
                if kind == 0:
                    del other[at]
                elif kind < 3:
                    other[at] = (rows[at][0], rows[at][1] + numbers.choice((-1, 1)))
                elif kind == 3:
                    other = [row for row in other if row[0] == () or numbers.random() < 0.9]
                else:
                    other[at] = (rows[at][0] + (numbers.randrange(9),), rows[at][1])
                told = is_right_table(graph, cores, n, other)
                rights[told] += 1
                self.assert_holds(graph, cores, n, ("table", tuple(other)), told)
        self.assertGreater(min(rights.values()), 100)

    def test_a_paper_for_each_graph(self):
        kinds = set()
        for graph in [*all_graphs(4), *drawn_graphs(150, 9), *HARD, ((), (0,), (0,), (0,), (1, 2, 3))]:
            for cores in (1, 2, 3):
                paper = length_paper(graph, cores)
                kinds.add(paper[0])
                self.assert_holds(graph, cores, least(graph, cores), paper, True)
                self.assert_holds(graph, cores, least(graph, cores) + 1, paper, False)
        self.assertEqual(kinds, {"area", "way", "window", "table"})
        self.assertIs(length_holds(GRAPH, 2, 4, length_paper(graph=GRAPH, cores=2)), True)

    def test_if_it_holds_no_schedule_has_less(self):
        for graph in [*all_graphs(4), HARD[0]]:
            for cores in (1, 2):
                n = least(graph, cores) + 1
                papers = [("area",), ("table", whole_table(graph, cores, n)), ("table", (((), n),))]
                papers += [("window", a, b) for a, b in itertools.product(range(6), repeat=2)]
                papers += [
                    ("way", way) for many in range(4) for way in itertools.combinations(range(len(graph)), many)]
                for paper in papers:
                    self.assert_holds(graph, cores, n, paper, False)

    def test_any_values_at_all(self):
        for paper in NO_PAPERS:
            for n in (0, 1, -1):
                self.assert_holds(GRAPH, 2, n, paper, False)
                self.assert_holds((), 2, n, paper, False)
        for n in NO_TUPLES + ((), (4,), "4", deep(60, tuple)):
            if isinstance(n, bool) or not isinstance(n, int):
                for paper in (("area",), ("way", (0, 1, 3, 4)), ("window", 0, 0), ("table", (((), n),)), ("table", (((), 1),)), None):
                    self.assert_holds(GRAPH, 2, n, paper, False)

    def test_each_part_of_a_table_counts(self):
        paper = ("table", whole_table(((), (), (0,)), 2, 2))
        for path in paths(paper):
            for value in (None, True, False, [], "z", (99,), deep(60, tuple)):
                self.assert_holds(((), (), (0,)), 2, 2, changed(paper, path, value), False)

    def test_a_table_with_too_few_rows_for_many_ready_nodes(self):
        graph = ((),) * 60
        self.assert_holds(graph, 6, 3, ("table", (((), 3), ((0, 1, 2, 3, 4, 5), 2))), False)
        self.assert_holds(graph, 6, 10, ("area",), True)


class LeastHolds(unittest.TestCase):
    def test_an_example(self):
        schedule = ((0,), (1, 2), (3,), (4,))
        paper = ("way", (0, 1, 3, 4))
        self.assertIs(least_holds(GRAPH, 2, 4, schedule, paper), True)
        self.assertIs(least_holds(graph=GRAPH, cores=2, n=4, schedule=schedule, paper=paper), True)
        self.assertIs(least_holds(GRAPH, 1, 4, schedule, paper), False)
        self.assertIs(least_holds(GRAPH, 2, 3, schedule, paper), False)
        self.assertIs(least_holds(GRAPH, 2, 5, schedule, paper), False)
        self.assertIs(least_holds(GRAPH, 2, 4, schedule, ("area",)), False)
        self.assertIs(least_holds(GRAPH, 2, 3, schedule, ("area",)), False)
        self.assertIs(least_holds(GRAPH, 2, 4, schedule[:3], paper), False)
        self.assertIs(least_holds(GRAPH, 2, 5, ((0,), (1,), (2,), (3,), (4,)), paper), False)
        self.assertIs(least_holds(GRAPH, 2, 5, schedule + ((),), paper), False)
        self.assertIs(least_holds(GRAPH, 2, 4, ((0,), (2, 1), (3,), (4,)), paper), False)

    def test_it_holds_for_the_least_number_alone(self):
        for graph in [*all_graphs(4), *drawn_graphs(60, 9)]:
            for cores in (1, 2, 3):
                n, schedule, paper = least(graph, cores), least_schedule(graph, cores), length_paper(graph, cores)
                for other in range(-1, n + 3):
                    self.assertIs(least_holds(graph, cores, other, schedule, paper), other == n)
                    told = least_holds(graph, cores, other, schedule + ((),) * (other - n), paper)
                    self.assertIs(told, other == n)

    def test_any_values_at_all(self):
        schedule = ((0,), (1, 2), (3,), (4,))
        paper = ("way", (0, 1, 3, 4))
        for value in NO_PAPERS:
            self.assertIs(least_holds((), 2, 0, value, ("area",)), value == ())
            self.assertIs(least_holds(GRAPH, 2, 4, value, paper), False)
            self.assertIs(least_holds(GRAPH, 2, 4, schedule, value), False)
            self.assertIs(least_holds(GRAPH, 2, value, schedule, paper), False)
        self.assertIs(least_holds(((),), 2, True, ((0,),), ("area",)), False)
        self.assertIs(least_holds(((),), 2, 1, ((0,),), ("area",)), True)
        self.assertIs(least_holds((), 2, False, (), ("area",)), False)
        self.assertIs(least_holds((), 2, 0, (), ("area",)), True)
        self.assertIs(least_holds(((),), 2, 1, ((False,),), ("area",)), False)
        self.assertIs(least_holds(((),), 2, 1, [(0,)], ("area",)), False)


class Errors(unittest.TestCase):
    def test_no_graph_ahead_of_all_else(self):
        for value in NO_GRAPHS:
            for function in (
                lambda: least(value, 2), lambda: least_schedule(value, 2), lambda: area_bound(value, 2),
                lambda: window_bound(value, 2), lambda: length_paper(value, 2), lambda: length_holds(value, 2, 0, ("area",)),
                lambda: length_holds(value, 2, None, value), lambda: length_holds(value, 2, 0, ()),
                lambda: least_holds(value, 2, 0, (), ("area",)), lambda: least_holds(value, 2, None, None, None),
            ):
                with self.assertRaises(InvalidGraph) as caught:
                    function()
                self.assertIs(caught.exception.value, value)


if __name__ == "__main__":
    unittest.main()
