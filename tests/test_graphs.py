"""Points [9] and [12]: which deeds come behind which, and graphs and their ways."""

import itertools
import unittest

from forkspan.errors import InvalidGraph, InvalidNumber, InvalidProgram, InvalidWords
from forkspan.graphs import (
    beside, graph_of, heads, in_parallel, in_series, is_ahead, is_graph, longest_way, span, tails, work,
)
from forkspan.programtext import read_program
from tests.drawn import all_graphs, drawn_graphs, drawn_programs
from tests.model import Model
from tests.samples import NO_TUPLES, deep, with_few_calls

NO_GRAPHS = NO_TUPLES + (
    ((0,),), ((1,),), ((-1,),), ((), (1,)), ((), (2,)), ((), (-1,)), ((), (0, 0)), ((), (), (1, 0)), ((), (), (0, 2)),
    ((), 0), (0,), (None,), ((), None), ("",), ((), "0"), ((), ("0",)), ((), (False,)), ((), (), (True,)), ((), [0]),
    ([],), [()], [(), (0,)], ((), (None,)), ((), ((),)), ((), ((0,),)), ((), (0,), (0, 1, 1)), ((), (0, True)),
    ((), (10 ** 30,)), (deep(59, tuple),), ((), (0,), (0, [1])), ((), (), (), (0, 2, 1)),
)

ONE_WRONG_ARGUMENT = (
    work, heads, tails, span, longest_way,
    lambda graph: is_ahead(graph, -1, -1), lambda graph: beside(graph, -1),
    lambda graph: in_series(graph, ((),)), lambda graph: in_series(((),), graph), lambda graph: in_series(graph, None),
    lambda graph: in_parallel(graph, ((),)), lambda graph: in_parallel(((),), graph),
    lambda graph: in_parallel(graph, None),
)


def all_ways(graph):
    """All ways in a graph but the empty one."""
    found = [(node,) for node in range(len(graph))]
    for way in found:
        found += [way + (node,) for node, row in enumerate(graph) if way[-1] in row]
    return found


class IsGraph(unittest.TestCase):
    def test_graphs(self):
        for graph in ((), ((),), ((), ()), ((), (0,)), ((), (0,), (0, 1)), ((), (), (0, 1), (2,), (1, 3))):
            self.assertIs(is_graph(graph), True)
        self.assertIs(is_graph(value=((), (0,))), True)

    def test_no_graphs(self):
        for value in NO_GRAPHS:
            self.assertIs(is_graph(value), False, value)

    def test_all_values_of_three_small_rows(self):
        rows = [row for length in range(4) for row in itertools.product(range(-1, 4), repeat=length)]
        right = list(all_graphs(3))
        for last in rows:
            for graph in (((), (0,), last), ((), (), last), ((), last), (last,)):
                self.assertIs(is_graph(graph), graph in right, graph)


class GraphOf(unittest.TestCase):
    def assert_graph(self, text, graph, words=()):
        self.assertEqual(graph_of(read_program(text), words), graph)

    def test_statements_in_order(self):
        self.assert_graph("", ())
        self.assert_graph("a=1", ((),))
        self.assert_graph("a=1;a+=1;b=1", ((), (0,), (1,)))

    def test_if(self):
        self.assert_graph("if 1{a=1;b=1}{};c=1", ((), (0,), (1,), (2,)))
        self.assert_graph("if 0{a=1;b=1}{};c=1", ((), (0,)))
        self.assert_graph("if 0{}{if 1{if 1{a=1}{}}{}};c=1", ((), (0,), (1,), (2,), (3,)))
        self.assert_graph("if 0{}{if 1{if 0{a=1}{}}{}};c=1", ((), (0,), (1,), (2,)))

    def test_fork(self):
        self.assert_graph("fork{a=1;a=2}{b=1};c=1", ((), (0,), (1,), (0,), (2, 3), (4,)))
        self.assert_graph("fork{}", ((), (0,)))
        self.assert_graph("fork{}{}{};a=1", ((), (0,), (1,)))

    def test_fork_with_an_empty_block_beside_others(self):
        # The deed itself stands there too, although a longer way tells it.
        self.assert_graph("fork{a=1}{};b=1", ((), (0,), (0, 1), (2,)))
        self.assert_graph("fork{}{a=1}{}{if 0{c=1}{}}", ((), (0,), (0,), (0, 1, 2)))

    def test_each(self):
        self.assert_graph("each i<3{a=1};b=1", ((), (0,), (0,), (0,), (1, 2, 3), (4,)))
        self.assert_graph("each i<0{a=1};b=1", ((), (0,), (1,)))
        self.assert_graph("each i<3{};b=1", ((), (0,), (1,)))
        self.assert_graph("each i<3{if $i=1{a=1}{}}", ((), (0,), (0,), (2,), (0,), (1, 3, 4)))

    def test_fold(self):
        self.assert_graph("fold a + i<0:1;b=1", ((), (0,), (1,)))
        self.assert_graph("fold a + i<1:1;b=1", ((), (0,), (1,), (2,)))
        self.assert_graph("fold a + i<2:1;b=1", ((), (0,), (0,), (1, 2), (3,), (4,)))
        self.assert_graph("fold a + i<3:1", ((), (0,), (0,), (0,), (2, 3), (1, 4), (5,)))
        self.assert_graph("b=1;fold a + i<4:1", (
            (), (0,), (1,), (1,), (2, 3), (1,), (1,), (5, 6), (4, 7), (8,),
        ))

    def test_start_and_await(self):
        self.assert_graph("start t{a=1;b=1};c=1;await t;d=1", ((), (0,), (1,), (0,), (2, 3), (4,)))
        self.assert_graph("start t{a=1};b=1", ((), (0,), (0,)))
        self.assert_graph("start t{};a=1;await t", ((), (0,), (0, 1)))
        self.assert_graph("start t{};await t", ((), (0,)))
        self.assert_graph("start t{a=1};await t;await t", ((), (0,), (0, 1), (1, 2)))
        self.assert_graph("start t{start u{a=1}};await t", ((), (0,), (1,), (0, 1)))
        self.assert_graph("start t{start u{a=1};await u};await t", ((), (0,), (1,), (1, 2), (0, 3)))
        self.assert_graph("start t{if 0{a=1}{}};await t", ((), (0,), (0, 1)))

    def test_a_block_ends_without_what_was_started_in_it(self):
        self.assert_graph("fork{start t{a=1}};b=1", ((), (0,), (1,), (1,), (3,)))

    def test_a_ticket_started_again(self):
        self.assert_graph("start t{a=1};start t{b=1};await t", ((), (0,), (0,), (2,), (2, 3)))
        self.assert_graph("start t{a=1};await t;start t{b=1};await t", ((), (0,), (0, 1), (2,), (3,), (3, 4)))
        self.assert_graph("start t{a=1};start t{await t};await t", ((), (0,), (0,), (1, 2), (2, 3)))

    def test_an_await_within_other_blocks(self):
        self.assert_graph("start t{a=1};fork{await t}{start t{};await t}", (
            (), (0,), (0,), (1, 2), (2,), (4,), (3, 5),
        ))
        # The innermost block goes first, although a later start stands in a block around it.
        self.assert_graph("start t{a=1};if 1{start t{b=1};c=1;await t}{};await t", (
            (), (0,), (0,), (2,), (3,), (3,), (4, 5), (1, 6),
        ))
        self.assert_graph("start t{a=1};if 1{await t;start t{b=1}}{}", ((), (0,), (0,), (1, 2), (3,), (4,)))

    def test_each_round_awaits_its_own_start(self):
        self.assert_graph("each i<2{start t{a=1};await t}", (
            (), (0,), (1,), (1, 2), (0,), (4,), (4, 5), (3, 6),
        ))
        self.assert_graph("start t{a=1};each i<2{await t}", ((), (0,), (0,), (1, 2), (1, 2), (3, 4)))

    def test_with_words(self):
        self.assert_graph("each i<a{b=1}", ((), (0,), (0,), (1, 2)), (("a", 9),))
        self.assertEqual(graph_of(program=read_program("a=1"), words=()), ((),))

    def test_drawn_programs(self):
        for program, words in drawn_programs(400):
            graph = graph_of(program, words)
            self.assertEqual(graph, Model(program, words).graph())
            self.assertIs(is_graph(graph), True)
            self.assertEqual(graph_of(program, words), graph)

    def test_errors(self):
        for program, words in ((None, None), ([], ()), ((1,), None), ((("await", "t"),), ())):
            with self.assertRaises(InvalidProgram) as caught:
                graph_of(program, words)
            self.assertIs(caught.exception.value, program)
        for words in (None, [], (("a", 0),), (("b", 1), ("a", 1))):
            with self.assertRaises(InvalidWords) as caught:
                graph_of((), words)
            self.assertIs(caught.exception.value, words)

    def test_few_calls_in_the_deepest_programs(self):
        program = read_program("fork{" * 40 + "}" * 40)
        graph = with_few_calls(graph_of, program, ())
        self.assertEqual(graph, ((),) + tuple([(node,) for node in range(79)]))


class Ways(unittest.TestCase):
    def test_an_empty_graph(self):
        self.assertEqual((work(()), heads(()), tails(()), span(()), longest_way(())), (0, (), (), 0, ()))

    def test_an_example(self):
        graph = ((), (), (0,), (1,), (2, 3), (3,), (4,))
        self.assertEqual(work(graph=graph), 7)
        self.assertEqual(heads(graph=graph), (0, 0, 1, 1, 2, 2, 3))
        self.assertEqual(tails(graph=graph), (3, 3, 2, 2, 1, 0, 0))
        self.assertEqual(span(graph=graph), 4)
        self.assertEqual(longest_way(graph=graph), (0, 2, 4, 6))
        self.assertEqual(beside(graph=graph, i=5), (0, 2, 4, 6))
        self.assertIs(is_ahead(graph=graph, i=1, k=6), True)

    def test_nodes_without_any_ahead(self):
        graph = ((), (), ())
        self.assertEqual((work(graph), heads(graph), tails(graph), span(graph)), (3, (0, 0, 0), (0, 0, 0), 1))
        self.assertEqual(longest_way(graph), (0,))
        self.assertEqual(beside(graph, 1), (0, 2))

    def test_the_first_of_the_longest_ways(self):
        self.assertEqual(longest_way(((), (), (1,), (0,), (2, 3))), (0, 3, 4))
        self.assertEqual(longest_way(((), (0,), (0,), (2,), (1,))), (0, 1, 4))
        self.assertEqual(longest_way(((), (), (1,), (0,), (2,))), (1, 2, 4))

    def assert_ways(self, graph):
        ways = all_ways(graph)
        nodes = range(len(graph))
        longest = max([len(way) for way in ways], default=0)
        self.assertEqual(work(graph), len(graph))
        self.assertEqual(span(graph), longest)
        self.assertEqual(heads(graph), tuple([max([len(way) for way in ways if way[-1] == k]) - 1 for k in nodes]))
        self.assertEqual(tails(graph), tuple([max([len(way) for way in ways if way[0] == k]) - 1 for k in nodes]))
        self.assertEqual(longest_way(graph), min([way for way in ways + [()] if len(way) == longest]))
        pairs = {(way[0], way[-1]) for way in ways if len(way) > 1}
        for i in nodes:
            for k in nodes:
                self.assertIs(is_ahead(graph, i, k), (i, k) in pairs)
            self.assertEqual(beside(graph, i), tuple([
                k for k in nodes if k != i and (i, k) not in pairs and (k, i) not in pairs
            ]))

    def test_all_graphs_of_few_nodes(self):
        for graph in all_graphs(4):
            self.assert_ways(graph)

    def test_drawn_graphs(self):
        for graph in drawn_graphs(40, 9):
            self.assert_ways(graph)

    def test_long_graphs(self):
        graph = ((),) + tuple([(node,) for node in range(1499)])
        self.assertEqual(with_few_calls(span, graph), 1500)
        self.assertEqual(with_few_calls(longest_way, graph), tuple(range(1500)))
        self.assertIs(with_few_calls(is_ahead, graph, 0, 1499), True)
        self.assertEqual(with_few_calls(beside, graph, 700), ())


class Joined(unittest.TestCase):
    def test_series(self):
        one, two, chain = ((),), ((), ()), ((), (0,))
        self.assertEqual(in_series(one, one), ((), (0,)))
        self.assertEqual(in_series(chain, chain), ((), (0,), (1,), (2,)))
        self.assertEqual(in_series(two, two), ((), (), (0, 1), (0, 1)))
        self.assertEqual(in_series(((), (0,), (0,)), ((), (), (0,), (0, 1))),
                         ((), (0,), (0,), (1, 2), (1, 2), (3,), (3, 4)))
        self.assertEqual(in_series(graph=one, other=two), ((), (0,), (0,)))

    def test_parallel(self):
        self.assertEqual(in_parallel(((), (0,)), ((), (0,), (0, 1))), ((), (0,), (), (2,), (2, 3)))
        self.assertEqual(in_parallel(graph=((),), other=((), (0,))), ((), (), (1,)))

    def test_with_an_empty_graph(self):
        for graph in all_graphs(3):
            for join in (in_series, in_parallel):
                self.assertEqual(join(graph, ()), graph)
                self.assertEqual(join((), graph), graph)

    def test_work_and_span(self):
        for graph in all_graphs(3):
            for other in all_graphs(4):
                series, parallel = in_series(graph, other), in_parallel(graph, other)
                self.assertTrue(is_graph(series) and is_graph(parallel))
                self.assertEqual(work(series), work(graph) + work(other))
                self.assertEqual(span(series), span(graph) + span(other))
                self.assertEqual(work(parallel), work(graph) + work(other))
                self.assertEqual(span(parallel), max(span(graph), span(other)))

    def test_ways_lead_from_each_node_to_each_of_the_other(self):
        for graph in all_graphs(3):
            for other in all_graphs(3):
                series, parallel = in_series(graph, other), in_parallel(graph, other)
                for i in range(len(graph)):
                    for k in range(len(other)):
                        self.assertTrue(is_ahead(series, i, len(graph) + k))
                        self.assertIn(len(graph) + k, beside(parallel, i))


class Errors(unittest.TestCase):
    def test_no_graph_ahead_of_all_others(self):
        for value in NO_GRAPHS:
            for function in ONE_WRONG_ARGUMENT:
                with self.assertRaises(InvalidGraph) as caught:
                    function(value)
                self.assertIs(caught.exception.value, value)

    def test_the_first_from_the_left(self):
        for function in (in_series, in_parallel):
            with self.assertRaises(InvalidGraph) as caught:
                function("first", "second")
            self.assertEqual(caught.exception.value, "first")

    def test_the_first_that_is_no_node(self):
        graph = ((), (0,), (0,))
        for i, k, wrong in (
            (3, 0, 3), (-1, 0, -1), (0, 3, 3), (0, -1, -1), (4, 5, 4), (5, 4, 5), (3, 3, 3), (2, 10 ** 20, 10 ** 20), (-2, 9, -2),
        ):
            with self.assertRaises(InvalidNumber) as caught:
                is_ahead(graph, i, k)
            self.assertEqual(caught.exception.value, wrong)
        for i in (3, 4, -1, -3, 10 ** 20):
            with self.assertRaises(InvalidNumber) as caught:
                beside(graph, i)
            self.assertEqual(caught.exception.value, i)
        for wrong in (True, False, None, "0", (0,)):
            for function in (
                lambda: is_ahead(graph, wrong, 9), lambda: is_ahead(graph, 0, wrong), lambda: beside(graph, wrong),
            ):
                with self.assertRaises(InvalidNumber) as caught:
                    function()
                self.assertIs(caught.exception.value, wrong)
        for function in (lambda: is_ahead((), 0, 0), lambda: beside((), 0)):
            with self.assertRaises(InvalidNumber) as caught:
                function()
            self.assertEqual(caught.exception.value, 0)


if __name__ == "__main__":
    unittest.main()
