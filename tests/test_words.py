"""Points [2] and [7]: values, words and the operations."""

import unittest

from forkspan.errors import InvalidWords
from forkspan.words import PRIME, is_words, operated, word_in, words_with
from tests.samples import KEYWORDS, NEVER, NO_TUPLES, RIGHT_NAMES, WRONG_NAMES, changed, deep, part_at, paths

WORDS = (("b", 1), ("d", PRIME - 1), ("dd", 5), ("f", 7))
NO_WORDS = (
    (("b", 1), ("a", 1)),
    (("a", 1), ("a", 1)),
    (("a", 1), ("a", 2)),
    (("a", 1), ("c", 1), ("b", 1)),
    (("ab", 1), ("a", 1)),
    (("a", 0),),
    (("a", PRIME),),
    (("a", True),),
    (("a", 1), ("b", 0)),
    (("if", 1),),
    ("a", 1),
    ("ab",),
    (("a", 1, 1),),
    (("a",),),
    ((1, "a"),),
    ((),),
)


class IsWords(unittest.TestCase):
    def test_words(self):
        for words in ((), (("a", 1),), (("a", PRIME - 1),), (("a", 1), ("b", 1)), WORDS,
                      (("a", 1), ("aa", 2), ("ab", 3), ("b", 1), ("zzzzzzzz", 4)),
                      tuple((sign, 1) for sign in "abcdefghijkl")):
            with self.subTest(words=words):
                self.assertIs(is_words(words), True)
                self.assertIs(is_words(value=words), True)

    def test_right_names(self):
        for name in RIGHT_NAMES:
            self.assertIs(is_words(((name, 1),)), True, name)

    def test_no_words(self):
        for value in NO_WORDS + NO_TUPLES + (deep(2, tuple), deep(60, tuple), deep(200, tuple)):
            with self.subTest(value=value):
                self.assertIs(is_words(value), False)

    def test_wrong_names(self):
        for name in WRONG_NAMES:
            with self.subTest(name=name):
                self.assertIs(is_words(((name, 1),)), False)
                self.assertIs(is_words((("a", 1), (name, 1))), False)

    def test_wrong_values(self):
        for value in NEVER + ("a", "1", (), 0):
            with self.subTest(value=value):
                self.assertIs(is_words((("a", value),)), False)
                self.assertIs(is_words((("a", 1), ("b", value), ("c", 1))), False)

    def test_a_list_in_place_of_each_tuple(self):
        for path in paths(WORDS):
            part = part_at(WORDS, path)
            if isinstance(part, tuple):
                self.assertIs(is_words(changed(WORDS, path, list(part))), False, path)

    def test_a_wrong_part_in_each_place(self):
        for path in paths(WORDS):
            for wrong in NEVER:
                self.assertIs(is_words(changed(WORDS, path, wrong)), False, (path, wrong))


class WordInAndWith(unittest.TestCase):
    def test_the_value_of_a_name_that_is_there(self):
        for name, value in WORDS:
            self.assertEqual(word_in(WORDS, name), value)
        self.assertEqual(word_in(words=WORDS, name="d"), PRIME - 1)

    def test_a_name_that_is_not_there_has_0(self):
        for name in ("a", "bb", "c", "e", "ff", "z"):
            self.assertEqual(word_in(WORDS, name), 0)
        self.assertEqual(word_in((), "a"), 0)

    def test_a_new_name_stands_in_its_place(self):
        self.assertEqual(words_with((), "a", 1), (("a", 1),))
        for place, name in ((0, "a"), (1, "bb"), (2, "da"), (3, "de"), (4, "ff")):
            for value in (1, 2, PRIME - 1):
                expected = WORDS[:place] + ((name, value),) + WORDS[place:]
                self.assertEqual(words_with(WORDS, name, value), expected)

    def test_a_name_that_is_there_gets_the_value(self):
        for place, (name, _) in enumerate(WORDS):
            for value in (1, 4, PRIME - 1):
                expected = WORDS[:place] + ((name, value),) + WORDS[place + 1:]
                self.assertEqual(words_with(WORDS, name, value), expected)

    def test_with_the_value_0_the_name_goes(self):
        for place, (name, _) in enumerate(WORDS):
            self.assertEqual(words_with(WORDS, name, 0), WORDS[:place] + WORDS[place + 1:])
        for name in ("a", "c", "z"):
            self.assertEqual(words_with(WORDS, name, 0), WORDS)
        self.assertEqual(words_with((("a", 1),), "a", 0), ())
        self.assertEqual(words_with((), "a", 0), ())

    def test_by_name_and_words_again(self):
        result = words_with(value=3, name="c", words=WORDS)
        self.assertEqual(result, (("b", 1), ("c", 3), ("d", PRIME - 1), ("dd", 5), ("f", 7)))
        self.assertIs(is_words(result), True)
        self.assertEqual([word_in(result, name) for name in "abcdef"], [0, 1, 3, PRIME - 1, 0, 7])

    def test_what_was_handed_in_stays(self):
        words = (("b", 1), ("d", 2))
        words_with(words, "b", 9)
        words_with(words, "d", 0)
        word_in(words, "b")
        self.assertEqual(words, (("b", 1), ("d", 2)))
        wrong = [("b", 1)]
        with self.assertRaises(InvalidWords):
            words_with(wrong, "a", 1)
        self.assertEqual(wrong, [("b", 1)])

    def test_invalid_words_keep_their_value(self):
        for value in NO_WORDS + NO_TUPLES:
            with self.subTest(value=value):
                with self.assertRaises(InvalidWords) as raised:
                    word_in(value, "a")
                self.assertIs(raised.exception.value, value)
                for number in (0, 1):
                    with self.assertRaises(InvalidWords) as raised:
                        words_with(value, "a", number)
                    self.assertIs(raised.exception.value, value)


class Operated(unittest.TestCase):
    EDGES = (0, 1, 2, 3, 1000, 500001, 500002, PRIME - 2, PRIME - 1)

    def test_prime(self):
        self.assertEqual(PRIME, 1000003)

    def test_told_results(self):
        last = PRIME - 1
        told = {
            "+": {(0, 0): 0, (0, 1): 1, (1, 1): 2, (last, 0): last, (last, 1): 0, (last, last): last - 1},
            "-": {(0, 0): 0, (1, 0): 1, (0, 1): last, (1, 1): 0, (0, last): 1, (1, last): 2, (last, last): 0},
            "*": {(0, last): 0, (1, last): last, (last, last): 1, (last, 2): last - 1, (1000, 1001): 1001000 - PRIME},
            "max": {(0, 0): 0, (0, 1): 1, (1, 0): 1, (last, 1): last, (0, last): last, (last, last): last},
            "min": {(0, 0): 0, (0, 1): 0, (1, 0): 0, (last, 1): 1, (0, last): 0, (last, last): last},
            "<": {(0, 0): 0, (0, 1): 1, (1, 0): 0, (last, 0): 0, (0, last): 1, (last, last): 0, (1, last): 1},
            "=": {(0, 0): 1, (0, 1): 0, (1, 0): 0, (last, 0): 0, (0, last): 0, (last, last): 1, (1, 1): 1},
        }
        for op, results in told.items():
            for (a, b), result in results.items():
                with self.subTest(op, a=a, b=b):
                    found = operated(op, a, b)
                    self.assertEqual(found, result)
                    self.assertIs(type(found), int)
                    self.assertEqual(operated(b=b, a=a, op=op), result)

    def test_every_result_is_a_value_that_the_law_tells(self):
        for a in self.EDGES:
            for b in self.EDGES:
                self.assertEqual((operated("+", a, b) - a - b) % PRIME, 0)
                self.assertEqual((operated("-", a, b) - a + b) % PRIME, 0)
                self.assertEqual((operated("*", a, b) - a * b) % PRIME, 0)
                self.assertEqual(operated("+", operated("-", a, b), b), a)
                self.assertEqual(sorted((a, b)), [operated("min", a, b), operated("max", a, b)])
                self.assertEqual(operated("<", a, b) + operated("=", a, b) + operated("<", b, a), 1)
                for op in ("+", "-", "*", "max", "min", "<", "="):
                    self.assertIn(operated(op, a, b), range(PRIME))


class Names(unittest.TestCase):
    def test_keywords_are_no_names_though_they_are_words(self):
        for word in KEYWORDS:
            self.assertIs(is_words(((word, 1),)), False, word)
            self.assertIs(is_words(((word + "a", 1),)), True, word)


if __name__ == "__main__":
    unittest.main()
