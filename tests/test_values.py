"""[5]: which values there are."""

import string
import unittest

from ledgerloom.amounts import is_value
from tests.helper import ODD_THINGS, VALUES_IN_ORDER, nested, own

BARRED = '"\\' + chr(37)
MOST = 10 ** 15 - 1


class ValuesTest(unittest.TestCase):
    def let(self, value):
        self.assertIs(is_value(value), True, value)
        self.assertIs(is_value(value=value), True)

    def barred(self, value):
        self.assertIs(is_value(value), False, value)

    def test_values_of_every_kind(self):
        for value in VALUES_IN_ORDER:
            self.let(value)
            self.let(own(value))

    def test_figures_of_numbers(self):
        for p in (0, 1, MOST - 1, MOST):
            self.let(("number", p, 1))
            self.let(("number", -p, 1))
        for p in (MOST + 1, MOST + 2, 10 ** 16, 10 ** 40):
            self.barred(("number", p, 1))
            self.barred(("number", -p, 1))
        for q in (2, MOST - 1, MOST):
            self.let(("number", 1, q))
            self.let(("number", -1, q))
            self.barred(("number", 1, -q))
        for q in (MOST + 1, 10 ** 16, 10 ** 40, 0, -1):
            self.barred(("number", 1, q))
        self.let(("number", MOST, MOST - 1))

    def test_common_divisors(self):
        for p, q in ((2, 2), (2, 4), (-2, 4), (6, 9), (MOST, 3), (3, MOST), (0, 2), (0, MOST), (MOST, MOST)):
            self.barred(("number", p, q))
        for p, q in ((1, 2), (-1, 4), (5, 9), (0, 1), (2, 3)):
            self.let(("number", p, q))
        self.barred(("number", 0, 0))
        self.barred(("number", 0, -1))

    def test_every_small_fraction(self):
        for p in range(-12, 13):
            for q in range(-3, 13):
                common = [d for d in range(2, 13) if p % d == 0 and q % d == 0]
                self.assertIs(is_value(("number", p, q)), q >= 1 and not common, (p, q))

    def test_lengths_of_texts(self):
        for many in (0, 1, 39, 40):
            self.let(("text", "x" * many))
        for many in (41, 42, 4000):
            self.barred(("text", "x" * many))

    def test_characters_of_texts(self):
        for code in range(300):
            inside = 32 <= code <= 126 and chr(code) not in BARRED
            for text in (chr(code), "ab" + chr(code), chr(code) + "ab"):
                self.assertIs(is_value(("text", text)), inside, code)
        for letter in ("\ud800", "\u2028", "\U0001f600", "\u00a0"):
            self.barred(("text", letter))
        self.assertEqual(sum(is_value(("text", letter)) for letter in string.printable), 92)

    def test_truths(self):
        for b in (2, -1, True, False, None, "1", "yes", (), (1,)):
            self.barred(("truth", b))

    def test_errors(self):
        for word in ("Kind", "kinds", "", "value", "#kind", 0, None, ("kind",), ["kind"], b"kind"):
            self.barred(("error", word))

    def test_bools_in_place_of_integers(self):
        for p in (0, 1, True, False):
            for q in (1, True):
                self.assertIs(is_value(("number", p, q)), type(p) is int and type(q) is int)

    def test_unknown_words(self):
        for word in ("", "Number", "numbers", "none", "value", None, 0, 1, ("number",), ["text"]):
            self.barred((word,))
            self.barred((word, "kind"))
            self.barred((word, 1))
            self.barred((word, 1, 1))

    def test_lists_in_place_of_tuples(self):
        for value in VALUES_IN_ORDER:
            if value is not None:
                self.barred(list(value))
                self.barred([value])

    def test_too_short_and_too_long(self):
        for value in VALUES_IN_ORDER:
            if value is not None:
                self.barred(value[:-1])
                self.barred(value[1:])
                self.barred(value + (1,))
                self.barred(value + (None,))
                self.barred((value,))

    def test_kinds_that_are_mixed(self):
        for inside in (1, 0, "", "kind", "a", None, (), ("number", 1, 1), nested(50)):
            self.assertIs(is_value(("text", inside)), inside in ("", "kind", "a"))
            self.assertIs(is_value(("truth", inside)), inside in (0, 1))
            self.assertIs(is_value(("error", inside)), inside == "kind")
            self.barred(("number", inside))
            self.assertIs(is_value(("number", inside, 1)), inside in (0, 1))
            self.assertIs(is_value(("number", 1, inside)), inside == 1)
            self.barred(("text", inside, 1))
            self.barred(("truth", inside, 1))
            self.barred(("error", inside, 1))

    def test_things_of_any_kind(self):
        for thing in ODD_THINGS:
            self.barred(thing)
            self.barred(("text", thing) if not isinstance(thing, str) else (thing, thing))
            self.barred(("error", thing))
            self.barred(("truth", [thing]))


if __name__ == "__main__":
    unittest.main()
