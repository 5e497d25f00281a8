"""Schedules: in which step each node of a graph is done."""

from forkspan.graphs import check_graph, is_row, span, work


def is_schedule(graph, cores, value):
    """Whether a value, of any kind at all, is a schedule of a graph for so many cores."""
    check_graph(graph)
    if not isinstance(value, tuple):
        return False
    if not all([is_row(step, len(graph)) and len(step) <= cores for step in value]):
        return False
    if sorted(nodes_of(value)) != list(range(len(graph))):
        return False
    steps = {node: number for number, step in enumerate(value) for node in step}
    return all([steps[ahead] < steps[node] for node, row in enumerate(graph) for ahead in row])


def is_greedy(graph, cores, schedule):
    """Whether each step of a schedule has a node, and as many as there are cores or all that are ready."""
    if not is_schedule(graph, cores, schedule):
        return False
    done = {}
    for step in schedule:
        if len(step) == 0 or len(step) < cores and len(step) < len(free_nodes(graph, done)):
            return False
        done.update({node: True for node in step})
    return True


def ready(graph, done):
    """The nodes that are not done although all that they come directly behind are."""
    check_graph(graph)
    return tuple(free_nodes(graph, {node: True for node in done}))


def listed(graph, cores, order):
    """The greedy schedule in which each step takes the first nodes in this order that are ready."""
    check_graph(graph)
    steps = []
    done = {}
    left = list(order)
    while left:
        step = [node for node in left if is_free(graph, done, node)][:cores]
        steps.append(tuple(sorted(step)))
        done.update({node: True for node in step})
        left = [node for node in left if node not in done]
    return tuple(steps)


def step_bound(graph, cores):
    """The number of steps that no greedy schedule exceeds."""
    return (work(graph) + (cores - 1) * span(graph)) // cores


def idle(schedule, cores):
    """How often a core does nothing."""
    return cores * len(schedule) - len(nodes_of(schedule))


def cut_down(graph, cores, schedule):
    """The greedy schedule that takes the nodes in the order of a schedule."""
    return listed(graph, cores, nodes_of(schedule))


def nodes_of(schedule):
    """The nodes of a schedule, step by step."""
    return [node for step in schedule for node in step]


def free_nodes(graph, done):
    """The ready nodes where those in a dict are done, ascending."""
    return [node for node in range(len(graph)) if node not in done and is_free(graph, done, node)]


def is_free(graph, done, node):
    """Whether all that a node comes directly behind is in a dict."""
    return all([ahead in done for ahead in graph[node]])
