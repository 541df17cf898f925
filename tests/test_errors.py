"""[3]: the errors."""

import inspect
import unittest

from ledgerloom import errors
from tests.helper import ODD_THINGS

KEPT_AS = {
    "InvalidNumber": "value",
    "InvalidName": "value",
    "InvalidValue": "value",
    "InvalidTree": "value",
    "InvalidText": "value",
    "InvalidSheets": "value",
    "InvalidViews": "value",
    "InvalidRights": "value",
    "InvalidCell": "value",
    "InvalidDeed": "value",
    "InvalidStamp": "value",
    "InvalidMark": "value",
    "InvalidBytes": "value",
    "Undefined": "what",
}


class ErrorsTest(unittest.TestCase):
    def test_there_are_just_these_errors(self):
        found = {
            name for name, thing in vars(errors).items()
            if inspect.isclass(thing) and issubclass(thing, Exception)
        }
        self.assertEqual(found, set(KEPT_AS) | {"BookError"})

    def test_all_stand_under_book_error_and_none_under_another(self):
        self.assertTrue(issubclass(errors.BookError, ValueError))
        for name in KEPT_AS:
            kind = getattr(errors, name)
            self.assertTrue(issubclass(kind, errors.BookError), name)
            self.assertFalse(issubclass(errors.BookError, kind), name)
            for other in KEPT_AS:
                self.assertEqual(issubclass(kind, getattr(errors, other)), name == other, (name, other))

    def test_each_keeps_what_it_is_made_with(self):
        for name, attribute in KEPT_AS.items():
            kind = getattr(errors, name)
            for thing in [*ODD_THINGS, None, "veiled", ("number", 1, 1), kind]:
                self.assertIs(getattr(kind(thing), attribute), thing)
                self.assertIs(getattr(kind(**{attribute: thing}), attribute), thing)

    def test_a_kept_list_is_the_list_itself(self):
        told = [1]
        error = errors.InvalidSheets(told)
        told.append(2)
        self.assertEqual(error.value, [1, 2])

    def test_no_other_argument_is_let(self):
        for name, attribute in KEPT_AS.items():
            kind = getattr(errors, name)
            with self.assertRaises(TypeError):
                kind()
            with self.assertRaises(TypeError):
                kind(1, 2)
            with self.assertRaises(TypeError):
                kind(**{"what" if attribute == "value" else "value": 1})

    def test_each_is_caught_as_book_error_and_as_value_error(self):
        for name, attribute in KEPT_AS.items():
            kind = getattr(errors, name)
            for above in (kind, errors.BookError, ValueError):
                with self.assertRaises(above) as caught:
                    raise kind([name])
                self.assertIs(type(caught.exception), kind)
                self.assertEqual(getattr(caught.exception, attribute), [name])

    def test_none_is_caught_as_another(self):
        for name in KEPT_AS:
            others = tuple(getattr(errors, other) for other in KEPT_AS if other != name)
            try:
                raise getattr(errors, name)(None)
            except others:
                self.fail(name)
            except errors.BookError:
                pass

    def test_errors_are_not_iterable_and_equal_to_nothing_else(self):
        for name in KEPT_AS:
            kind = getattr(errors, name)
            error = kind(1)
            with self.assertRaises(TypeError):
                iter(error)
            self.assertTrue(error == error)
            for other in ODD_THINGS:
                self.assertFalse(error == other)


if __name__ == "__main__":
    unittest.main()
