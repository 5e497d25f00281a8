"""Runs by plans: steps of deeds, in any order in which the deeds become ready."""

from forkspan.basics import is_integers
from forkspan.errors import NotReady
from forkspan.machine import begun
from forkspan.serial import serial_deeds

# In a pick stands how many deeds its step has, then which ones they are, each as a figure with this base.
PICK_BASE = 8


def run_plan(program, words, plan):
    """The words behind a plan, the deeds done by it, and those that are ready then."""
    machine = planned_run(program, words, plan)
    return (machine.words_now(), tuple(machine.done), ready_names(machine))


def first_ready(program, words):
    """The names of the deeds that are ready at first."""
    return ready_names(begun(program, words))


def finished(program, words, plan):
    """Whether nothing is ready behind a plan."""
    return not planned_run(program, words, plan).ready


def plan_of(program, words, schedule):
    """The plan that does the deeds of the serial run as a schedule of their graph tells."""
    names = serial_deeds(program, words)
    return tuple([tuple([names[node] for node in step]) for step in schedule])


def picked_run(program, words, cores, picks):
    """The plan that does everything, with the steps of at most so many deeds that the picks tell."""
    machine = begun(program, words)
    plan = []
    while machine.ready:
        pick = picks[len(plan)] if len(plan) < len(picks) else 0
        step = picked_step(ready_names(machine), cores, pick)
        perform_step(machine, step)
        plan.append(step)
    return tuple(plan)


def all_ends(program, words):
    """The words behind all that plans which do everything can leave, ascending."""
    ends = {}
    seen = {}
    waiting = [()]
    while waiting:
        plan = waiting.pop()
        machine = planned_run(program, words, plan)
        state = state_of(machine)
        if state in seen:
            continue
        seen[state] = True
        if not machine.ready:
            ends[machine.words_now()] = True
        waiting.extend([plan + ((name,),) for name in ready_names(machine)])
    return tuple(sorted(ends))


def is_plan(value):
    """Whether a value, of any kind at all, is a tuple of tuples of tuples of integers."""
    if not isinstance(value, tuple) or not all([isinstance(step, tuple) for step in value]):
        return False
    return all([is_integers(name) for step in value for name in step])


def planned_run(program, words, plan):
    """The run behind the last step of a plan."""
    machine = begun(program, words)
    for number, step in enumerate(plan):
        check_step(machine, number, step)
        perform_step(machine, step)
    return machine


def check_step(machine, number, step):
    """Raise NotReady for the first deed of a step that is not ready when it begins, or comes twice in it."""
    for name in step:
        if name not in machine.ready or step.count(name) > 1:
            raise NotReady(number, name)


def perform_step(machine, step):
    """Do the deeds of a step, in its order."""
    for name in step:
        machine.perform(name)


def ready_names(machine):
    """The names of the deeds that are ready, ascending."""
    return tuple(sorted(machine.ready))


def picked_step(names, cores, pick):
    """The deeds of a step that a pick takes from the ready ones."""
    left = list(names)
    step = []
    for _ in range(1 + pick % min(len(left), cores)):
        pick = pick // PICK_BASE
        step.append(left.pop(pick % len(left)))
    return tuple(step)


def state_of(machine):
    """What all that can still come hangs on: the results so far and the words."""
    results = sorted([(name, deed.result) for name, deed in machine.done.items()])
    return (tuple(results), machine.words_now())
