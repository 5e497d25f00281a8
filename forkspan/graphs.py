"""Graphs: which nodes come behind which, and how long the ways are."""

from forkspan.basics import is_integer
from forkspan.errors import InvalidGraph, InvalidNumber
from forkspan.serial import serial_run


def is_graph(value):
    """Whether a value, of any kind at all, is a graph."""
    return isinstance(value, tuple) and all([is_row(row, node) for node, row in enumerate(value)])


def is_row(value, limit):
    """Whether a value is a tuple of numbers below a limit, ascending, no two alike."""
    if not isinstance(value, tuple):
        return False
    if not all([is_integer(node) and 0 <= node < limit for node in value]):
        return False
    return list(value) == sorted(set(value))


def check_graph(graph):
    """Raise InvalidGraph unless this is a graph."""
    if not is_graph(graph):
        raise InvalidGraph(graph)


def check_node(graph, node):
    """Raise InvalidNumber unless this is a node of the graph."""
    if not is_integer(node) or not 0 <= node < len(graph):
        raise InvalidNumber(node)


def graph_of(program, words):
    """The graph of the serial run."""
    done = serial_run(program, words).done
    numbers = {name: number for number, name in enumerate(done)}
    graph = []
    for deed in done.values():
        # Two empty blocks, or an await right behind its start, tell one deed twice.
        graph.append(tuple(sorted(set([numbers[name] for name in deed.behind]))))
    return tuple(graph)


def work(graph):
    """The number of nodes."""
    check_graph(graph)
    return len(graph)


def heads(graph):
    """For each node the greatest number of nodes on a way that ends just ahead of it."""
    check_graph(graph)
    counts = []
    for row in graph:
        counts.append(max([counts[node] + 1 for node in row], default=0))
    return tuple(counts)


def tails(graph):
    """For each node the greatest number of nodes on a way that begins just behind it."""
    check_graph(graph)
    counts = [0 for row in graph]
    for node in reversed(range(len(graph))):
        for ahead in graph[node]:
            counts[ahead] = max(counts[ahead], counts[node] + 1)
    return tuple(counts)


def span(graph):
    """The greatest number of nodes on a way."""
    return max([head + 1 for head in heads(graph)], default=0)


def is_ahead(graph, i, k):
    """Whether a way leads from one node to another one."""
    check_graph(graph)
    check_node(graph, i)
    check_node(graph, k)
    return i != k and k in reached_from(graph, i)


def reached_from(graph, node):
    """A dict with the nodes that ways from a node lead to, the node itself among them."""
    reached = {node: True}
    for later in range(node + 1, len(graph)):
        if any([ahead in reached for ahead in graph[later]]):
            reached[later] = True
    return reached


def leading_to(graph, node):
    """A dict with the nodes from which ways lead to a node, the node itself among them."""
    leading = {node: True}
    for earlier in reversed(range(node + 1)):
        if earlier in leading:
            leading.update({ahead: True for ahead in graph[earlier]})
    return leading


def longest_way(graph):
    """The first, by Python's order, of the ways with the most nodes."""
    counts = tails(graph)
    way = []
    for left in reversed(range(span(graph))):
        # The least node with which the way can still become the longest.
        way.append(min([
            node for node, row in enumerate(graph)
            if counts[node] == left and (not way or way[-1] in row)
        ]))
    return tuple(way)


def beside(graph, i):
    """The other nodes with no way between them and a node."""
    check_graph(graph)
    check_node(graph, i)
    behind = reached_from(graph, i)
    ahead = leading_to(graph, i)
    return tuple([node for node in range(len(graph)) if node not in behind and node not in ahead])


def in_series(graph, other):
    """The graph in which the nodes of other come behind all nodes of graph."""
    check_graph(graph)
    check_graph(other)
    ends = tuple([node for node, tail in enumerate(tails(graph)) if tail == 0])
    return graph + tuple([row if row else ends for row in moved(other, len(graph))])


def in_parallel(graph, other):
    """The graph in which the nodes of both stand side by side."""
    check_graph(graph)
    check_graph(other)
    return graph + moved(other, len(graph))


def moved(graph, by):
    """The rows of a graph with all its nodes numbered higher by a number."""
    return tuple([tuple([node + by for node in row]) for row in graph])
