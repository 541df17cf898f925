"""[7], [8]: how values are shown, ordered, written and read."""

import re
import unittest
from itertools import product
from math import gcd

from ledgerloom.amounts import is_less, read_value, shown, written
from ledgerloom.errors import InvalidText, InvalidValue
from tests.helper import ODD_THINGS, VALUES_IN_ORDER, is_plain, own

MOST = 10 ** 15 - 1

# Each value with what is shown of it and how it is written.
TOLD = [
    (None, "", ""),
    (("number", 0, 1), "0", "0"),
    (("number", 7, 1), "7", "7"),
    (("number", -7, 1), "-7", "-7"),
    (("number", 1, 2), "1/2", "1/2"),
    (("number", -10, 3), "-10/3", "-10/3"),
    (("number", MOST, 1), "9" * 15, "9" * 15),
    (("number", 1 - MOST, MOST), "-" + "9" * 14 + "8/" + "9" * 15, "-" + "9" * 14 + "8/" + "9" * 15),
    (("text", ""), "", '""'),
    (("text", "a b"), "a b", '"a b"'),
    (("text", "yes"), "yes", '"yes"'),
    (("text", "#kind"), "#kind", '"#kind"'),
    (("text", "12"), "12", '"12"'),
    (("text", " "), " ", '" "'),
    (("text", "~" * 40), "~" * 40, '"' + "~" * 40 + '"'),
    (("truth", 1), "yes", "yes"),
    (("truth", 0), "no", "no"),
    (("error", "kind"), "#kind", "#kind"),
    (("error", "zero"), "#zero", "#zero"),
    (("error", "size"), "#size", "#size"),
    (("error", "ring"), "#ring", "#ring"),
    (("error", "gone"), "#gone", "#gone"),
]

NOT_WRITTEN = [
    "00", "01", "-01", "007", "0/1", "-0", "+1", "+0", "--1", "- 1", "1-", "-",
    "2/4", "-2/4", "0/2", "1/1", "-1/1", "1/0", "0/0", "1/-2", "-1/-2", "1/02", "01/2", "1/2/3", "1/", "/2", "/", "1 /2",
    " ", " 1", "1 ", "1 2", "1\n", "\n", "1.0", "1e3", "1_0", "0x1", "\u0661", "\u00b2", "\uff11", "1/\u0663",
    "9" * 16, "-" + "9" * 16, "1/" + "9" * 16, "9" * 4000, "1" + "0" * 15, "1/1" + "0" * 15, "0" * 16, "-" * 4000,
    "a", "abc", '"', '"a', 'a"', '""a', 'a""', '"a"b"', '"""', '""""', ' "a"', '"a" ', "'a'", '"a""b"',
    '"' + "x" * 41 + '"', '"' + "x" * 3998 + '"', '"\n"', '"\\"', '"' + chr(37) + '"', '"\u00e9"', '"\x7f"', '"\x1f"',
    "Yes", "NO", "yes ", " no", "yesno", "true", "None", "none", "truth", "y", "n",
    "#", "#Kind", "#kind ", " #kind", "# kind", "##kind", "#kinds", "#hidden", "#yes", "#1", "kind", "gone",
]


def is_short_written(text):
    """Whether a short text, in which there are neither words nor barred characters, is what a value is written as."""
    if re.fullmatch('|"[^"]*"|0|-?[1-9][0-9]*', text):
        return True
    parts = re.fullmatch("-?([1-9][0-9]*)/([1-9][0-9]*)", text)
    return parts is not None and parts[2] != "1" and gcd(int(parts[1]), int(parts[2])) == 1


class ShownTest(unittest.TestCase):
    def test_shown(self):
        for value, text, _ in TOLD:
            self.assertEqual(shown(value), text)
            self.assertEqual(shown(value=value), text)
            self.assertIs(type(shown(own(value))), str)
            self.assertEqual(shown(own(value)), text)

    def test_shown_refuses(self):
        for wrong in [*ODD_THINGS, ("number", 2, 2), ["text", "a"], ("truth", True)]:
            with self.assertRaises(InvalidValue) as caught:
                shown(wrong)
            self.assertIs(caught.exception.value, wrong)


class IsLessTest(unittest.TestCase):
    def test_every_pair_both_ways(self):
        for at, one in enumerate(VALUES_IN_ORDER):
            for there, other in enumerate(VALUES_IN_ORDER):
                self.assertIs(is_less(one, other), at < there, (one, other))

    def test_by_name_and_of_own_classes(self):
        self.assertIs(is_less(one=None, other=("number", -1, 1)), True)
        self.assertIs(is_less(other=None, one=("number", -1, 1)), False)
        self.assertIs(is_less(own(("text", "a")), own(("text", "b"))), True)
        self.assertIs(is_less(own(("text", "a")), ("text", "a")), False)

    def test_numbers_by_size_and_not_by_p_or_q(self):
        numbers = [(p, q) for q in range(1, 8) for p in range(-9, 10)]
        numbers = [(p, q) for p, q in numbers if all(p % d or q % d for d in range(2, 8))]
        for p, q in numbers:
            for r, s in numbers:
                less = p * 420 // q < r * 420 // s
                self.assertIs(is_less(("number", p, q), ("number", r, s)), less, (p, q, r, s))

    def test_refuses_the_first_that_is_wrong(self):
        for wrong in [*ODD_THINGS, ("number", 2, 2), ["text", "a"]]:
            for one, other in ((wrong, None), (None, wrong), (wrong, ["other"]), (wrong, wrong)):
                with self.assertRaises(InvalidValue) as caught:
                    is_less(one, other)
                self.assertIs(caught.exception.value, wrong)


class WrittenTest(unittest.TestCase):
    def test_written(self):
        for value, _, text in TOLD:
            self.assertEqual(written(value), text)
            self.assertEqual(written(value=value), text)
            self.assertIs(type(written(own(value))), str)
            self.assertEqual(written(own(value)), text)

    def test_written_refuses(self):
        for wrong in [*ODD_THINGS, ("number", 2, 2), ["text", "a"], ("truth", True)]:
            with self.assertRaises(InvalidValue) as caught:
                written(wrong)
            self.assertIs(caught.exception.value, wrong)

    def test_unlike_values_are_written_unlike(self):
        values = VALUES_IN_ORDER + [value for value, _, _ in TOLD if value not in VALUES_IN_ORDER]
        self.assertEqual(len({written(value) for value in values}), len(values))


class ReadValueTest(unittest.TestCase):
    def refuses(self, wrong):
        with self.assertRaises(InvalidText) as caught:
            read_value(wrong)
        self.assertIs(caught.exception.value, wrong)

    def test_what_is_written_is_read_again(self):
        for value in VALUES_IN_ORDER + [value for value, _, _ in TOLD]:
            for text in (written(value), own(written(value))):
                found = read_value(text)
                self.assertEqual(found, value)
                self.assertTrue(is_plain(found))
        self.assertEqual(read_value(text="-1/3"), ("number", -1, 3))

    def test_texts_that_are_nearly_so(self):
        for wrong in NOT_WRITTEN:
            self.refuses(wrong)

    def test_what_is_no_string_at_all(self):
        strings = [thing for thing in ODD_THINGS if isinstance(thing, str)]
        for wrong in [thing for thing in ODD_THINGS if thing not in strings] + [None, b"1", ["1"], ("number", 1, 1)]:
            self.refuses(wrong)
        for wrong in strings:
            self.refuses(wrong)

    def test_all_short_texts(self):
        for many in range(6):
            for signs in product('01-/"y ', repeat=many):
                text = "".join(signs)
                try:
                    self.assertEqual(written(read_value(text)), text)
                    found = True
                except InvalidText:
                    found = False
                self.assertIs(found, is_short_written(text), text)


if __name__ == "__main__":
    unittest.main()
