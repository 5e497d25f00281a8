"""Claims: what they say, whether a paper tells why they are true, and papers for those that are."""

from forkspan.basics import is_integer, is_integers
from forkspan.errors import InvalidClaim, Refused
from forkspan.graphs import is_graph
from forkspan.least import least, least_holds, least_schedule, length_holds, length_paper, paper_for
from forkspan.programs import is_program
from forkspan.races import calm_holds, calm_paper, first_race, is_calm, race_plans
from forkspan.runs import is_plan
from forkspan.serial import serial_end
from forkspan.words import is_words

MOST_CORES = 6
# The kinds of the parts behind the first one, which tells the form.
FORMS = {
    "ends": ("program", "words", "words"),
    "race": ("program", "words", "deed", "deed"),
    "least": ("graph", "cores", "integer"),
    "longer": ("graph", "cores", "integer"),
}


def is_claim(value):
    """Whether a value, of any kind at all, has the form of a claim."""
    if not isinstance(value, tuple) or len(value) == 0 or not isinstance(value[0], str):
        return False
    kinds = FORMS.get(value[0], ())
    if len(kinds) == 0 or len(value) != len(kinds) + 1:
        return False
    return all([is_of_kind(kind, part) for kind, part in zip(kinds, value[1:])])


def claim_holds(claim, paper):
    """Whether a paper tells why a claim is true, both being values of any kind at all."""
    if not is_claim(claim):
        return False
    if claim[0] == "ends":
        _, program, words, end = claim
        return end == serial_end(program, words) and calm_holds(program, words, paper)
    if claim[0] == "race":
        return is_true(claim) and is_race_paper(claim, paper)
    _, graph, cores, n = claim
    if claim[0] == "longer":
        return length_holds(graph, cores, n, paper)
    if not isinstance(paper, tuple) or len(paper) != 2:
        return False
    return least_holds(graph, cores, n, paper[0], paper[1])


def seal_claim(claim):
    """A paper that tells why a claim is true."""
    if not is_claim(claim):
        raise InvalidClaim(claim)
    if not is_true(claim):
        raise Refused(claim)
    if claim[0] == "ends":
        return calm_paper(claim[1], claim[2])
    if claim[0] == "race":
        return race_plans(claim[1], claim[2])
    _, graph, cores, n = claim
    if claim[0] == "longer":
        return paper_for(graph, cores, n)
    return (least_schedule(graph, cores), length_paper(graph, cores))


def is_cores(value):
    """Whether a value, of any kind at all, is a number of cores."""
    return is_integer(value) and 1 <= value <= MOST_CORES


def is_of_kind(kind, value):
    """Whether a value, of any kind at all, may be a part of this kind of a claim."""
    if kind == "program":
        return is_program(value)
    if kind == "words":
        return is_words(value)
    if kind == "deed":
        return is_integers(value)
    if kind == "graph":
        return is_graph(value)
    if kind == "cores":
        return is_cores(value)
    return is_integer(value)


def is_true(claim):
    """Whether what a claim says is so."""
    if claim[0] == "ends":
        _, program, words, end = claim
        return is_calm(program, words) and end == serial_end(program, words)
    if claim[0] == "race":
        race = first_race(claim[1], claim[2])
        return race is not None and race[:2] == claim[3:]
    _, graph, cores, n = claim
    if claim[0] == "longer":
        return n <= least(graph, cores)
    return n == least(graph, cores)


def is_race_paper(claim, paper):
    """Whether a value, of any kind at all, is the two plans of the race of a claim."""
    # False and True are like 0 and 1, but no parts of plans.
    return paper == race_plans(claim[1], claim[2]) and all([is_plan(plan) for plan in paper])
