"""[6]: what signs make of two values."""

import unittest
from fractions import Fraction

from ledgerloom.amounts import is_value, made_of
from ledgerloom.errors import InvalidText, InvalidValue
from tests.helper import ODD_THINGS, VALUES_IN_ORDER, is_plain, own

SIGNS = ["+", "-", "*", "/", "&", "=", "<"]
MOST = 10 ** 15 - 1
KIND = ("error", "kind")
SIZE = ("error", "size")
ZERO = ("error", "zero")
YES = ("truth", 1)
NO = ("truth", 0)


def number(p, q=1):
    """The number value of p / q."""
    fraction = Fraction(p, q)
    return ("number", fraction.numerator, fraction.denominator)


def text(string):
    return ("text", string)


def told(value):
    """What is shown of a value that is no error."""
    if value is None:
        return ""
    if value[0] == "number":
        return str(Fraction(value[1], value[2]))
    return value[1] if value[0] == "text" else ["no", "yes"][value[1]]


def reckoned(sign, a, b):
    """What a sign makes of two fractions."""
    if sign == "<":
        return YES if a < b else NO
    if sign == "/" and b == 0:
        return ZERO
    made = {"+": lambda: a + b, "-": lambda: a - b, "*": lambda: a * b, "/": lambda: a / b}[sign]()
    short = abs(made.numerator) <= MOST and made.denominator <= MOST
    return ("number", made.numerator, made.denominator) if short else SIZE


def expected(sign, one, other):
    """What the document says, told anew and in another way."""
    for value in (one, other):
        if value is not None and value[0] == "error":
            return value
    if sign == "&":
        joined = told(one) + told(other)
        return text(joined) if len(joined) <= 40 else SIZE
    if sign == "=":
        return YES if (one is None and other is None) or (one is not None and one == other) else NO
    kinds = [value[0] if value is not None else "number" for value in (one, other)]
    if kinds == ["number", "number"]:
        fractions = [Fraction(0) if value is None else Fraction(*value[1:]) for value in (one, other)]
        return reckoned(sign, *fractions)
    if kinds == ["text", "text"] and sign == "<":
        return YES if one[1] < other[1] else NO
    return KIND


class MadeOfTest(unittest.TestCase):
    def makes(self, sign, one, other, made):
        found = made_of(sign, one, other)
        self.assertEqual(found, made, (sign, one, other))
        self.assertTrue(is_plain(found) and is_value(found))

    def test_every_sign_over_every_pair(self):
        for sign in SIGNS:
            for one in VALUES_IN_ORDER:
                for other in VALUES_IN_ORDER:
                    self.makes(sign, one, other, expected(sign, one, other))

    def test_by_name(self):
        self.assertEqual(made_of(sign="-", one=number(1), other=number(3)), number(-2))
        self.assertEqual(made_of(other=number(1), one=number(3), sign="-"), number(2))

    def test_numbers(self):
        self.makes("+", number(1, 2), number(1, 3), number(5, 6))
        self.makes("+", number(1, 2), number(1, 2), number(1))
        self.makes("+", number(1, 6), number(1, 3), number(1, 2))
        self.makes("-", number(1, 2), number(1, 2), number(0))
        self.makes("-", number(2), number(5), number(-3))
        self.makes("*", number(2, 3), number(3, 4), number(1, 2))
        self.makes("*", number(-2, 3), number(0), number(0))
        self.makes("/", number(1), number(-2), number(-1, 2))
        self.makes("/", number(-1), number(-2), number(1, 2))
        self.makes("/", number(0), number(-2), number(0))
        self.makes("/", number(6), number(3), number(2))
        self.makes("<", number(1, 3), number(1, 2), YES)
        self.makes("<", number(-1, 2), number(-1, 3), YES)
        self.makes("<", number(2), number(10), YES)
        self.makes("<", number(2), number(2), NO)
        self.makes("=", number(2), number(2), YES)
        self.makes("=", number(1, 2), number(1, 3), NO)

    def test_nothing_counts_as_zero(self):
        for sign in ("+", "-", "*"):
            self.makes(sign, None, None, number(0))
        self.makes("+", None, number(5), number(5))
        self.makes("-", None, number(5), number(-5))
        self.makes("-", number(5), None, number(5))
        self.makes("*", number(5), None, number(0))
        self.makes("/", None, number(5), number(0))
        self.makes("/", number(5), None, ZERO)
        self.makes("/", None, None, ZERO)
        self.makes("<", None, number(1), YES)
        self.makes("<", number(-1), None, YES)
        self.makes("<", None, None, NO)
        self.makes("<", None, text(""), KIND)
        self.makes("+", None, text(""), KIND)

    def test_nothing_is_not_the_same_as_zero(self):
        self.makes("=", None, number(0), NO)
        self.makes("=", number(0), None, NO)
        self.makes("=", None, None, YES)
        self.makes("=", None, text(""), NO)
        self.makes("=", ("truth", 1), number(1), NO)
        self.makes("=", text("yes"), ("truth", 1), NO)
        self.makes("=", text("kind"), KIND, KIND)

    def test_size_of_p(self):
        self.makes("+", number(MOST - 1), number(1), number(MOST))
        self.makes("+", number(MOST), number(1), SIZE)
        self.makes("-", number(1 - MOST), number(1), number(-MOST))
        self.makes("-", number(-MOST), number(1), SIZE)
        self.makes("*", number(MOST // 9), number(9), number(MOST))
        self.makes("*", number(10 ** 14), number(10), SIZE)
        self.makes("*", number(10 ** 14), number(-10), SIZE)
        self.makes("/", number(MOST), number(1, 2), SIZE)
        self.makes("/", number(MOST), number(1, 999), SIZE)

    def test_size_of_q(self):
        self.makes("/", number(1), number(MOST), number(1, MOST))
        self.makes("/", number(1, 10 ** 14), number(10), SIZE)
        self.makes("/", number(1, 10 ** 14), number(9), number(1, 9 * 10 ** 14))
        self.makes("*", number(1, 10 ** 8), number(1, 10 ** 7), SIZE)
        self.makes("+", number(1, MOST), number(1, MOST - 1), SIZE)
        self.makes("-", number(1, MOST), number(1, MOST), number(0))
        self.makes("+", number(MOST - 1, MOST), number(1, MOST), number(1))

    def test_zero_is_asked_for_behind_kind(self):
        self.makes("/", text("a"), number(0), KIND)
        self.makes("/", ("truth", 1), None, KIND)
        self.makes("/", number(0), text("a"), KIND)
        self.makes("/", number(MOST), number(0), ZERO)
        self.makes("/", number(0), number(0), ZERO)

    def test_joined(self):
        self.makes("&", text("a"), text("b"), text("ab"))
        self.makes("&", number(-1, 2), ("truth", 1), text("-1/2yes"))
        self.makes("&", None, None, text(""))
        self.makes("&", None, ("truth", 0), text("no"))
        self.makes("&", number(3), number(4), text("34"))
        self.makes("&", text("x" * 20), text("y" * 20), text("x" * 20 + "y" * 20))
        self.makes("&", text("x" * 21), text("y" * 20), SIZE)
        self.makes("&", text("x" * 40), None, text("x" * 40))
        self.makes("&", text("x" * 40), number(1), SIZE)
        self.makes("&", text("x" * 39), number(1), text("x" * 39 + "1"))
        self.makes("&", text("x" * 38), ("truth", 1), SIZE)

    def test_texts_in_dictionary_order(self):
        self.makes("<", text("ab"), text("abc"), YES)
        self.makes("<", text("abc"), text("ab"), NO)
        self.makes("<", text(""), text(" "), YES)
        self.makes("<", text("10"), text("9"), YES)
        self.makes("<", text("Z"), text("a"), YES)
        self.makes("<", text("a"), text("a"), NO)

    def test_kind(self):
        for sign in ("+", "-", "*", "/", "<"):
            self.makes(sign, ("truth", 0), ("truth", 1), KIND)
            self.makes(sign, text("1"), number(1), KIND)
            self.makes(sign, number(1), text("1"), KIND)
        for sign in ("+", "-", "*", "/"):
            self.makes(sign, text("a"), text("b"), KIND)

    def test_errors_come_first_and_the_first_of_two(self):
        for sign in SIGNS:
            self.makes(sign, ("error", "ring"), ("error", "gone"), ("error", "ring"))
            self.makes(sign, ("error", "gone"), ("error", "ring"), ("error", "gone"))
            for value in (None, text("a"), number(0), ("truth", 1)):
                self.makes(sign, ("error", "ring"), value, ("error", "ring"))
                self.makes(sign, value, ("error", "ring"), ("error", "ring"))

    def test_what_comes_is_plain(self):
        for sign in SIGNS:
            for one in VALUES_IN_ORDER[::3]:
                for other in VALUES_IN_ORDER[::2]:
                    self.makes(own(sign), own(one), own(other), expected(sign, one, other))


class MadeOfRefusesTest(unittest.TestCase):
    def refuses(self, error, wrong, *arguments):
        with self.assertRaises(error) as caught:
            made_of(*arguments)
        self.assertIs(caught.exception.value, wrong)

    def test_wrong_signs(self):
        for wrong in [*ODD_THINGS, None, "", "++", " +", "+ ", "<=", ">", "==", ("+",), ["+"], "minus", b"+"]:
            self.refuses(InvalidText, wrong, wrong, None, number(1))

    def test_wrong_values(self):
        for wrong in [*ODD_THINGS, ("number", 2, 2), ("text", "x" * 41), ("truth", True), ["error", "kind"]]:
            for sign in SIGNS:
                for right in (None, number(0), KIND, text("a")):
                    self.refuses(InvalidValue, wrong, sign, wrong, right)
                    self.refuses(InvalidValue, wrong, sign, right, wrong)

    def test_several_wrong_at_once(self):
        one, other, sign = ["one"], ["other"], ["sign"]
        self.refuses(InvalidText, sign, sign, one, other)
        self.refuses(InvalidText, sign, sign, None, other)
        self.refuses(InvalidText, sign, sign, one, None)
        self.refuses(InvalidValue, one, "+", one, other)
        self.refuses(InvalidValue, other, "+", None, other)


if __name__ == "__main__":
    unittest.main()
