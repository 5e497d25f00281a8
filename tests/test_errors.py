"""Point [3]: the errors."""

import inspect
import unittest

from forkspan import errors
from forkspan.errors import InvalidProgram, InvalidWords, SpanError
from forkspan.programs import words_of
from forkspan.words import word_in, words_with

FIELDS = {
    "InvalidProgram": ("value",),
    "InvalidWords": ("value",),
    "InvalidGraph": ("value",),
    "InvalidNumber": ("value",),
    "InvalidClaim": ("value",),
    "InvalidText": ("text", "at"),
    "InvalidLine": ("line", "at"),
    "NotReady": ("step", "deed"),
    "Refused": ("claim",),
    "UnknownName": ("name",),
    "Undefined": ("what",),
    "NothingToUndo": ("word",),
}
ANYTHING = (0, -1, 10 ** 30, True, False, None, "", "a", (), (1, "a", None), [], [(), [True]], {"a": 1})


class ErrorClasses(unittest.TestCase):
    def test_there_are_these_classes_and_no_others(self):
        found = [name for name, value in vars(errors).items() if inspect.isclass(value)]
        self.assertEqual(sorted(found), sorted([*FIELDS, "SpanError"]))
        for name in found:
            self.assertEqual(getattr(errors, name).__module__, "forkspan.errors")

    def test_each_stands_directly_under_span_error(self):
        self.assertEqual(SpanError.__bases__, (ValueError,))
        for name in FIELDS:
            with self.subTest(name):
                self.assertEqual(getattr(errors, name).__bases__, (SpanError,))

    def test_made_by_place(self):
        for name, fields in FIELDS.items():
            for value in ANYTHING:
                with self.subTest(name, value=value):
                    given = [value, "other"][:len(fields)]
                    error = getattr(errors, name)(*given)
                    self.assertEqual(vars(error), dict(zip(fields, given)))
                    self.assertIs(getattr(error, fields[0]), value)

    def test_made_by_name(self):
        for name, fields in FIELDS.items():
            for value in ANYTHING:
                with self.subTest(name, value=value):
                    given = dict(zip(reversed(fields), [value, "other"]))
                    error = getattr(errors, name)(**given)
                    self.assertEqual(vars(error), given)
                    self.assertIs(getattr(error, fields[-1]), value)

    def test_neither_more_nor_fewer_arguments(self):
        for name, fields in FIELDS.items():
            with self.subTest(name):
                with self.assertRaises(TypeError):
                    getattr(errors, name)()
                with self.assertRaises(TypeError):
                    getattr(errors, name)(*range(len(fields) + 1))

    def test_each_raised_is_caught_as_itself_span_error_and_value_error(self):
        for name, fields in FIELDS.items():
            for caught in (getattr(errors, name), SpanError, ValueError):
                with self.subTest(name, caught=caught):
                    with self.assertRaises(caught) as raised:
                        raise getattr(errors, name)(*fields)
                    self.assertEqual(vars(raised.exception), dict(zip(fields, fields)))

    def test_none_is_caught_as_another_one(self):
        for name, fields in FIELDS.items():
            for other in FIELDS:
                error = getattr(errors, name)(*fields)
                self.assertEqual(isinstance(error, getattr(errors, other)), name == other)


class WhereTheyAreRaised(unittest.TestCase):
    def test_raised_errors_are_caught_at_each_level(self):
        calls = (
            (lambda: words_of([]), InvalidProgram),
            (lambda: word_in([], "a"), InvalidWords),
            (lambda: words_with([], "a", 1), InvalidWords),
        )
        for call, kind in calls:
            for caught in (kind, SpanError, ValueError):
                with self.subTest(kind=kind, caught=caught):
                    with self.assertRaises(caught) as raised:
                        call()
                    self.assertIs(type(raised.exception), kind)
                    self.assertEqual(raised.exception.value, [])


if __name__ == "__main__":
    unittest.main()
