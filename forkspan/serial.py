"""The serial run: the deeds one after the other, as the program tells them."""

from forkspan.deeds import touched
from forkspan.errors import Undefined
from forkspan.machine import begun


def serial_deeds(program, words):
    """The names of the deeds in serial order."""
    return tuple(serial_run(program, words).done)


def serial_end(program, words):
    """The words behind all deeds of the serial run."""
    return serial_run(program, words).words_now()


def kind_of(program, words, deed):
    """The kind of a deed of the serial run."""
    return serial_deed(program, words, deed).kind


def touched_by(program, words, deed):
    """The words that a deed of the serial run reads, those that it sets, and the pairs (word, op) that it joins."""
    return touched(serial_deed(program, words, deed))


def result_of(program, words, deed):
    """The value that a deed of the serial run worked out."""
    return serial_deed(program, words, deed).result


def serial_run(program, words):
    """The run behind its last deed, done in serial order."""
    machine = begun(program, words)
    while machine.ready:
        # What stands behind a start is ready too, but has a greater name than all deeds of its block.
        machine.perform(min(machine.ready, key=serial_place))
    return machine


def serial_place(name):
    """A key by which names are in serial order as far as they are ready: joins and keeps are last."""
    return tuple([(part == -1, part) for part in name])


def serial_deed(program, words, name):
    """What the serial run knows of the deed with a name."""
    deed = serial_run(program, words).done.get(name)
    if deed is None:
        raise Undefined("deed")
    return deed
