"""The least number of steps of a schedule, bounds of it, and papers that tell why nothing shorter exists."""

from itertools import combinations

from forkspan.basics import is_integer, is_number
from forkspan.graphs import check_graph, heads, is_row, longest_way, span, tails, work
from forkspan.schedules import is_schedule, ready


def least(graph, cores):
    """The least number of steps of a schedule."""
    return steps_left(graph, cores)[()]


def least_schedule(graph, cores):
    """The first, by Python's order, of the schedules with the least number of steps."""
    left = steps_left(graph, cores)
    done = ()
    schedule = []
    while left[done] > 0:
        free = list(ready(graph, done))
        # Full steps are enough for the least number, but one that is not full may stand ahead of them.
        steps = [step for many in range(1, cores + 1) for step in steps_of(free, many)]
        schedule.append(min([step for step in steps if left[joined(done, step)] < left[done]]))
        done = joined(done, schedule[-1])
    return tuple(schedule)


def area_bound(graph, cores):
    """The number of nodes divided by the cores, rounded up."""
    return divided_up(work(graph), cores)


def window_bound(graph, cores):
    """The greatest number that a window of heads and tails tells, 0 if there is no node."""
    return max(window_numbers(graph, cores).values(), default=0)


def length_paper(graph, cores):
    """A paper that tells why no schedule has less than the least number of steps."""
    return paper_for(graph, cores, least(graph, cores))


def length_holds(graph, cores, n, paper):
    """Whether a value, of any kind at all, is a paper that tells why no schedule has less than n steps."""
    check_graph(graph)
    if not is_integer(n) or not isinstance(paper, tuple):
        return False
    if paper == ("area",):
        return n <= area_bound(graph, cores)
    if len(paper) == 2 and paper[0] == "way":
        return is_way(graph, paper[1]) and n <= len(paper[1])
    if len(paper) == 2 and paper[0] == "table":
        return is_table(graph, cores, n, paper[1])
    if len(paper) == 3 and paper[0] == "window" and is_number(paper[1]) and is_number(paper[2]):
        number = window_numbers(graph, cores).get(paper[1:])
        return number is not None and n <= number
    return False


def least_holds(graph, cores, n, schedule, paper):
    """Whether values, of any kinds at all, are a schedule of n steps and a paper that tells why none has less."""
    if not length_holds(graph, cores, n, paper):
        return False
    return is_schedule(graph, cores, schedule) and len(schedule) == n


def paper_for(graph, cores, n):
    """A paper that tells why no schedule has less than n steps, where this is so."""
    if n <= area_bound(graph, cores):
        return ("area",)
    if n <= span(graph):
        return ("way", longest_way(graph))
    for (a, b), number in window_numbers(graph, cores).items():
        if n <= number:
            return ("window", a, b)
    return ("table", table_rows(graph, cores, n))


def divided_up(number, cores):
    """A number divided by the cores, rounded up."""
    return (number + cores - 1) // cores


def window_numbers(graph, cores):
    """A dict with what each window (a, b) with a node tells: all its nodes stand behind a and ahead of b steps."""
    places = list(zip(heads(graph), tails(graph)))
    numbers = {}
    for a in range(span(graph)):
        for b in range(span(graph)):
            many = len([head for head, tail in places if head >= a and tail >= b])
            if many > 0:
                numbers[(a, b)] = a + divided_up(many, cores) + b
    return numbers


def joined(done, step):
    """The nodes that are done behind a step, ascending."""
    return tuple(sorted(done + step))


def steps_of(nodes, many):
    """All steps of so many of these nodes."""
    return list(combinations(nodes, many))


def full_steps(graph, cores, done):
    """All steps of as many ready nodes as there can be in one."""
    free = list(ready(graph, done))
    return steps_of(free, min(cores, len(free)))


def closed_sets(graph):
    """All tuples of nodes, ascending, with all that they come behind; none ahead of a smaller one."""
    found = [()]
    level = [()]
    while level:
        larger = {joined(done, (node,)): True for done in level for node in ready(graph, done)}
        level = list(larger)
        found.extend(level)
    return found


def steps_left(graph, cores):
    """A dict with the least number of steps for what is left, for all nodes that may be done."""
    check_graph(graph)
    left = {}
    for done in closed_sets(graph)[::-1]:
        # To do less than a full step never leads to fewer steps.
        counts = [left[joined(done, step)] + 1 for step in full_steps(graph, cores, done) if step]
        left[done] = min(counts, default=0)
    return left


def table_rows(graph, cores, n):
    """The rows of a table for n steps: what full steps lead to, with the steps that are still left then."""
    table = {(): n}
    level = [()]
    for left in reversed(range(n)):
        larger = {joined(done, step): True for done in level for step in full_steps(graph, cores, done)}
        level = [done for done in larger if done not in table]
        table.update({done: left for done in level})
    return tuple(sorted(table.items()))


def is_way(graph, value):
    """Whether a value, of any kind at all, is a way in a graph."""
    if not isinstance(value, tuple) or not all([is_number(node) and node < len(graph) for node in value]):
        return False
    return all([node in graph[later] for node, later in zip(value, value[1:])])


def is_table(graph, cores, n, rows):
    """Whether a value, of any kind at all, is a table that tells why no schedule has less than n steps."""
    if not isinstance(rows, tuple) or not all([is_table_row(graph, row) for row in rows]):
        return False
    sets = [done for done, _ in rows]
    if sets != sorted(set(sets)):
        return False
    table = {done: t for done, t in rows}
    if table.get(()) != n:
        return False
    return all([t <= 0 or is_led_on(graph, cores, table, done) for done, t in rows])


def is_table_row(graph, value):
    """Whether a value is a pair of nodes, ascending, with all that they come behind, and an integer."""
    if not isinstance(value, tuple) or len(value) != 2 or not is_integer(value[1]):
        return False
    done = value[0]
    return is_row(done, len(graph)) and all([ahead in done for node in done for ahead in graph[node]])


def is_led_on(graph, cores, table, done):
    """Whether nodes are left and the table tells of all that full steps lead to, and of enough steps."""
    free = list(ready(graph, done))
    return len(free) > 0 and is_told_behind(table, done, free, min(cores, len(free)))


def is_told_behind(table, done, free, many):
    """Whether a table tells of enough steps behind each step of so many of the ready nodes."""
    needed = table[done] - 1
    # One by one, since there may be far more steps than the table has rows.
    for step in combinations(free, many):
        if table.get(joined(done, step), needed - 1) < needed:
            return False
    return True
