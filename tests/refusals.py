"""Tests that functions of a program and words refuse what is none, ahead of all other errors."""

from forkspan.errors import InvalidProgram, InvalidWords
from forkspan.programtext import read_program
from forkspan.words import PRIME
from tests.samples import NO_TUPLES

NO_PROGRAMS = NO_TUPLES + ((1,), (("await", "t"),), ("set", "a", ("number", 1)))
NO_WORDS = NO_TUPLES + ((("a", 0),), (("b", 1), ("a", 1)), (("a", 1), ("a", 1)), (("if", 1),), (("a", PRIME),), ("a",))


class Refusals:
    """For a test case with FUNCTIONS of a program and words."""

    FUNCTIONS = ()

    def test_no_program_ahead_of_all_others(self):
        for value in NO_PROGRAMS:
            for words in ((), (("a", 0),), None):
                for function in self.FUNCTIONS:
                    with self.assertRaises(InvalidProgram) as caught:
                        function(value, words)
                    self.assertIs(caught.exception.value, value)

    def test_no_words(self):
        for program in ((), read_program("a=1"), read_program("fork{a=1}{a=2}")):
            for value in NO_WORDS:
                for function in self.FUNCTIONS:
                    with self.assertRaises(InvalidWords) as caught:
                        function(program, value)
                    self.assertIs(caught.exception.value, value)
