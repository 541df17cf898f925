"""[28]: plain values told, and read again."""

import random
import unittest

from ledgerloom.errors import InvalidText, InvalidValue
from ledgerloom.stores import told_of, value_told
from tests.helper import ODD_THINGS, SMALL_BOOK, OwnText, is_plain, nested, own, paths, put_at
from tests.test_is_deed import DEEDS

GREAT = 10 ** 15 - 1
SIGNS = "".join(chr(k) for k in range(32, 127) if k not in (34, 37, 92))
TOLD = [
    (None, "none"), (0, "0"), (1, "1"), (-1, "-1"), (42, "42"), (GREAT, "9" * 15), (-GREAT, "-" + "9" * 15), ("", '""'),
    ("a", '"a"'), ("none", '"none"'), ("1", '"1"'), (" ", '" "'), (", ", '", "'), ("(a, b)", '"(a, b)"'),
    (SIGNS[:60], f'"{SIGNS[:60]}"'), (SIGNS[60:], f'"{SIGNS[60:]}"'), ("~" * 60, '"' + "~" * 60 + '"'), ((), "()"),
    ((None,), "(none)"), ((1,), "(1)"), ((1, 2), "(1, 2)"), (("a", None, -5), '("a", none, -5)'), (((),), "(())"),
    (((), ()), "((), ())"), ((1, (2, (3, "b")), ()), '(1, (2, (3, "b")), ())'), (("",), '("")'),
    (((1, "ann", 0), ("undo", (2, "ann", 0))), '((1, "ann", 0), ("undo", (2, "ann", 0)))'), ((1,) * 3, "(1, 1, 1)"),
    ((("error", "kind"), ("number", 1, 2)), '(("error", "kind"), ("number", 1, 2))'),
]


def some_value(dice, deep):
    """Some plain value."""
    kind = dice.choice(["none", "integer", "string", "tuple", "tuple"])
    if kind == "tuple" and deep > 0:
        return tuple(some_value(dice, deep - 1) for _ in range(dice.randint(0, 3)))
    if kind == "integer":
        return dice.choice([0, dice.randint(-20, 20), dice.randint(-GREAT, GREAT)])
    if kind == "string":
        return "".join(dice.choices(SIGNS, k=dice.choice([0, 1, 5, 60])))
    return None


def around(value, deep):
    """The value in so many tuples."""
    for _ in range(deep):
        value = (value,)
    return value


class ToldOfTest(unittest.TestCase):
    def test_some_values(self):
        for value, text in TOLD:
            for same in (value, own(value)):
                found = told_of(same)
                self.assertEqual(found, text)
                self.assertIs(type(found), str)

    def barred(self, value):
        for same in (value, own(value)):
            with self.assertRaises(InvalidValue) as caught:
                told_of(same)
            self.assertIs(caught.exception.value, same)

    def test_integers(self):
        for value in (10 ** 15, -(10 ** 15), 10 ** 30, -(10 ** 16), True, False):
            self.barred(value)
            self.barred((value,))
            self.barred((1, ("a", value)))

    def test_strings(self):
        for sign in [chr(k) for k in range(128)] + ["\x80", "\u00e9", "\u2028", "\ud800", "\U0001f600"]:
            if sign in SIGNS:
                self.assertEqual(told_of(sign), f'"{sign}"')
                self.assertEqual(told_of((f"a{sign}b",)), f'("a{sign}b")')
            else:
                for value in (sign, "a" + sign, sign + "a", (sign,)):
                    self.barred(value)
        for many in (59, 60):
            self.assertEqual(told_of("a" * many), '"' + "a" * many + '"')
        for many in (61, 62, 4000):
            self.barred("a" * many)
            self.barred(("a" * many,))

    def test_depth(self):
        for deep in (1, 2, 49, 50):
            self.assertEqual(told_of(nested(deep)), "(" * deep + ")" * deep)
            for value, text in ((None, "none"), (7, "7"), ("a", '"a"')):
                self.assertEqual(told_of(around(value, deep)), "(" * deep + text + ")" * deep)
        for deep in (51, 52, 60, 120):
            self.barred(nested(deep))
            self.barred((1, nested(deep)))
            self.barred(around(None, deep))
        self.assertEqual(told_of((nested(49), nested(49))),
            "(" + told_of(nested(49)) + ", " + told_of(nested(49)) + ")")
        self.barred((nested(49), nested(50)))

    def test_length(self):
        # Each member takes 3 characters, but the last one only 1, and the brackets 2.
        self.assertEqual(len(told_of((1,) * 10000)), 30000)
        self.assertEqual(len(told_of((11,) + (1,) * 9998)), 29998)
        self.barred((11,) + (1,) * 9999)
        self.barred((1,) * 10001)
        # Each string takes two signs more than it has, and two more stand between each two.
        self.assertEqual(len(told_of(("a" * 60,) * 468 + ("a" * 44,))), 30000)
        self.barred(("a" * 60,) * 468 + ("a" * 45,))
        self.barred((None,) * 30000)
        self.assertEqual(len(told_of(((),) * 7500)), 30000)
        self.barred(((),) * 7501)

    def test_what_is_no_plain_value(self):
        plain = [thing for thing in ODD_THINGS if is_told(thing)]
        for thing in [*ODD_THINGS, [], [None], {}, {1: 2}, b"a", 1.5, SMALL_BOOK, told_of]:
            if thing not in plain:
                self.barred(thing)
                self.barred((thing,))
                self.barred((1, (thing, "a")))
        for value, _ in TOLD:
            for path in paths(value):
                for thing in (True, [], [1], "\n", 10 ** 15, SMALL_BOOK, b""):
                    self.barred(put_at(value, path, thing))

    def test_by_name(self):
        self.assertEqual(told_of(value=(1,)), "(1)")
        self.assertEqual(value_told(text="(1)"), (1,))


def is_told(thing):
    """Whether it is a plain value, told once more."""
    if thing is None:
        return True
    if type(thing) is str:
        return len(thing) <= 60 and set(thing) <= set(SIGNS)
    if type(thing) is tuple:
        return all(is_told(member) for member in thing) and repr(thing).count("(((") < 40
    return type(thing) is int and abs(thing) <= GREAT


class ValueToldTest(unittest.TestCase):
    def reads(self, text, value):
        for same in (text, OwnText(text)):
            found = value_told(same)
            self.assertEqual(found, value)
            self.assertEqual(repr(found), repr(value))
            self.assertTrue(is_plain(found))

    def barred(self, text):
        for same in (text, own(text)):
            with self.assertRaises(InvalidText) as caught:
                value_told(same)
            self.assertIs(caught.exception.value, same)

    def test_there_and_back(self):
        for value, text in TOLD:
            self.reads(text, value)
        for deed in DEEDS:
            self.reads(told_of(deed), deed)
        dice = random.Random(28)
        for _ in range(300):
            value = some_value(dice, 6)
            self.reads(told_of(value), value)

    def test_integers(self):
        for text in (
            "00", "01", "007", "-0", "-01", "--1", "-", "+1", "1.0", "1e3", "1_000", "0x1", "1" * 16, "-" + "1" * 16,
            "9" * 29999, "\u0661", "1 ", " 1", "1\n", "True", "1-", "-(1)",
        ):
            self.barred(text)
            self.barred(f"({text})")
            self.barred(f"(1, {text})")
        self.reads("-" + "9" * 15, -GREAT)

    def test_strings(self):
        for text in (
            '"', '"a', 'a"', 'a', '""a"', '"""', '"a""b"', "'a'", '"' + "a" * 61 + '"', '"\n"', '"\t"',
            '"' + chr(92) + '"',
            '"' + chr(37) + '"', '"\x7f"', '"\u00e9"', '"a" ', ' "a"', '"' * 30000, '"a"b', "none ", " none",
            "None", "non", "nonee",
            "nonenone", "NONE", "yes", "",
        ):
            self.barred(text)
            self.barred(f"({text}, 1)")
            self.barred(f"(1, {text})")
        self.reads('"' + "a" * 60 + '"', "a" * 60)

    def test_tuples(self):
        for text in (
            "(", ")", "(1", "1)", "(1,)", "(1, )", "(, 1)", "(,)", "( )", "(1 , 2)", "(1,2)", "(1,  2)", "( 1)",
            "(1 )", "[1]",
            "1, 2", "(1, 2", "(1, 2,)", "((1)", "(1))", "()()", "(), ()", "() ", " ()", "(1\n, 2)", "(1;2)",
            "(none none)",
            "(1 2)", "(1), 2", "(1, 2)(3)", "()1", '("a" "b")', "(" * 30000, ")" * 30000, "(" * 15000 + ")" * 15000,
        ):
            self.barred(text)
        for deep in (1, 2, 49, 50):
            self.reads("(" * deep + ")" * deep, nested(deep))
            self.reads("(" * deep + "none" + ")" * deep, around(None, deep))
        for deep in (51, 52, 60, 100):
            self.barred("(" * deep + ")" * deep)
            self.barred("(" * deep + "none" + ")" * deep)
            self.barred("(1, " + "(" * (deep - 1) + ")" * deep)

    def test_texts_with_one_sign_changed_put_to_or_left_out(self):
        for value, text in [(value, text) for value, text in TOLD if len(text) < 50]:
            for place in range(len(text) + 1):
                for sign in ["", *'01-"(), an\\', "\n", chr(37)]:
                    for changed in (text[:place] + sign + text[place + 1:], text[:place] + sign + text[place:]):
                        try:
                            found = value_told(changed)
                        except InvalidText:
                            continue
                        self.assertEqual(told_of(found), changed)
                        self.assertEqual(found == value, changed == text)

    def test_length(self):
        self.reads("(" + "1, " * 9999 + "1)", (1,) * 10000)
        self.barred("(11, " + "1, " * 9998 + "11)")
        for many in (30001, 30002, 40000):
            self.barred("(" + "1, " * 9999 + "1" + ")" * (many - 29999))
            self.barred("1" * many)
            self.barred("(" + "1, " * (many // 3) + "1)")
        self.reads("(" + "(), " * 7499 + "())", ((),) * 7500)
        strings = ("a b",) * 4285
        self.reads("(" + ", ".join(['"a b"'] * 4285) + ")", strings)

    def test_what_is_no_text_told(self):
        for thing in [*ODD_THINGS, None, b"1", 1, (), ["1"], SMALL_BOOK]:
            self.barred(thing)


if __name__ == "__main__":
    unittest.main()
