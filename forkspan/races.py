"""Races: deeds without a way between them that do not bear each other; and papers that tell why there is none."""

from forkspan.basics import is_integers
from forkspan.deeds import touched
from forkspan.errors import Undefined
from forkspan.graphs import graph_of, leading_to
from forkspan.serial import serial_run

# How a deed uses a word: it reads it, joins it by an op (this op), or uses it so that it bears no other use:
# it sets it, or both joins and reads it.
READ = "read"
ALONE = "alone"


def races(program, words):
    """The triples (deed, later deed, first word by which they do not bear each other) of all races."""
    trail = Trail(program, words)
    found = []
    for later, name in enumerate(trail.names):
        for earlier in range(later):
            if earlier not in trail.ahead[later]:
                word = clash(trail.uses[earlier], trail.uses[later])
                if word is not None:
                    found.append((trail.names[earlier], name, word))
    return tuple(found)


def first_race(program, words):
    """The first of the races, None if there is none."""
    found = races(program, words)
    return found[0] if found else None


def is_calm(program, words):
    """Whether there is no race."""
    return first_race(program, words) is None


def race_plans(program, words):
    """Two plans that do the deeds of the first race next to each other, in this order and in the other one."""
    race = first_race(program, words)
    if race is None:
        raise Undefined("race")
    trail = Trail(program, words)
    needed = {}
    for name in race[:2]:
        needed.update(trail.ahead[trail.names.index(name)])
    names = [name for node, name in enumerate(trail.names) if node in needed and name not in race[:2]]
    before = tuple([(name,) for name in names])
    return (before + ((race[0],), (race[1],)), before + ((race[1],), (race[0],)))


def calm_paper(program, words):
    """A paper that tells why there is no race."""
    if not is_calm(program, words):
        raise Undefined("calm")
    trail = Trail(program, words)
    return tuple([(word, groups_of(trail, word)) for word in trail.words_used()])


def calm_holds(program, words, paper):
    """Whether a value, of any kind at all, is a paper that tells why there is no race."""
    trail = Trail(program, words)
    if not has_paper_form(paper):
        return False
    if [word for word, _ in paper] != trail.words_used():
        return False
    return all([are_groups_right(trail, word, groups) for word, groups in paper])


class Trail:
    """The deeds of the serial run: their names, the nodes ahead of each (itself among them), its uses of words."""

    def __init__(self, program, words):
        deeds = serial_run(program, words).done
        graph = graph_of(program, words)
        self.names = list(deeds)
        self.ahead = [leading_to(graph, node) for node in range(len(graph))]
        self.uses = [uses_of(deed) for deed in deeds.values()]

    def words_used(self):
        """The words that some deed touches, ascending."""
        return sorted(set([word for uses in self.uses for word in uses]))

    def nodes_using(self, word):
        """The nodes that touch a word, in serial order."""
        return [node for node, uses in enumerate(self.uses) if word in uses]


def uses_of(deed):
    """A dict with the words that a deed touches and how it uses each."""
    read, changed, joined = touched(deed)
    uses = {word: READ for word in read}
    for word, op in joined:
        uses[word] = ALONE if word in uses else op
    uses.update({word: ALONE for word in changed})
    return uses


def bears(use, other):
    """Whether two deeds that use a word so bear each other in it."""
    return use == other and use != ALONE


def clash(uses, others):
    """The first word, ascending, in which deeds with these uses do not bear each other, None if they do in all."""
    for word in sorted(uses):
        if word in others and not bears(uses[word], others[word]):
            return word
    return None


def groups_of(trail, word):
    """The names of the deeds that touch a word, those that follow each other and bear each other in one group."""
    groups = []
    last = ALONE
    for node in trail.nodes_using(word):
        use = trail.uses[node][word]
        if bears(last, use):
            groups[-1].append(trail.names[node])
        else:
            groups.append([trail.names[node]])
        last = use
    return tuple([tuple(group) for group in groups])


def has_paper_form(value):
    """Whether a value is a tuple of pairs of a string and a tuple of tuples, not empty, of names of deeds."""
    if not isinstance(value, tuple):
        return False
    for pair in value:
        if not isinstance(pair, tuple) or len(pair) != 2 or not isinstance(pair[0], str):
            return False
        if not isinstance(pair[1], tuple) or not all([is_group(group) for group in pair[1]]):
            return False
    return True


def is_group(value):
    """Whether a value is a tuple, not empty, of names of deeds."""
    return isinstance(value, tuple) and len(value) > 0 and all([is_integers(name) for name in value])


def are_groups_right(trail, word, groups):
    """Whether groups of names hold all deeds that touch a word, each ahead of the next group, bearing its own."""
    nodes = trail.nodes_using(word)
    # Since a group is ahead of the next one, all names stand in serial order if those of each group do.
    if [name for group in groups for name in group] != [trail.names[node] for node in nodes]:
        return False
    begin = 0
    earlier = []
    for group in groups:
        members = nodes[begin:begin + len(group)]
        begin += len(group)
        if not all([node in trail.ahead[member] for node in earlier for member in members]):
            return False
        first = trail.uses[members[0]][word]
        if not all([bears(first, trail.uses[member][word]) for member in members[1:]]):
            return False
        earlier = members
    return True
