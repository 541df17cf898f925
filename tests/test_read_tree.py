"""[11]: how the print of a tree is read in a book."""

import random
import unittest

from ledgerloom.errors import InvalidText
from ledgerloom.trees import is_tree, printed, read_tree
from tests.helper import (
    COLUMNS, Desk, ODD_THINGS, ROWS, area, book, bush, call, cell, chain, is_plain, number, own, text, truth,
)

SIGNS = ["+", "-", "*", "/", "&", "=", "<"]
A = number(1)
# Sheets whose names are words of formulas.
WORDY = (
    ("if", ROWS[:2], COLUMNS[:2], ()),
    ("no", ROWS[:0], COLUMNS[:2], ()),
    ("sum", ROWS[:2], COLUMNS[:2], ()),
    ("yes", ROWS[1::-1], COLUMNS[1::-1], ()),
)
SHEETS = (
    ("bills", ROWS[:12], COLUMNS[:3], ((ROWS[0], COLUMNS[0], ("number", 1, 1)),)),
    ("sum", ROWS[:2], COLUMNS[:2], ()),
    ("wide", ROWS[:1], COLUMNS[:12], ()),
    ("yes", ROWS[1::-1], COLUMNS[1::-1], ()),
)
BOOK = book(*SHEETS)
OTHER_BOOK = book(*own(SHEETS), owner="bob", rights=(("all", "bills", None, "none"),))
LEAVES = [
    number(0), A, number(-1), number(1, 2), number(-7, 3), number(999999999999999), number(-10, 999999999999999),
    text(""), text("a"), text("1 + (2)"), text(", "), text("#gone"), text(")"), text("(-1)"), text("-(") , truth(0), truth(1),
    cell("bills", 0, 0), cell("bills", 10, 2), cell("sum", 1, 1), cell("sum", 0, 1), cell("yes", 0, 0), cell("yes", 1, 0),
    cell("wide", 0, 0), cell("wide", 0, 11),
]
AREAS = [
    area("bills", 0, 0, 11, 2), area("bills", 11, 2, 0, 0), area("bills", 3, 0, 1, 2), area("sum", 0, 0, 0, 0),
    area("yes", 0, 1, 1, 0), area("wide", 0, 2, 0, 11),
]

NO_PRINTS = [
    "", " ", "  ", "1 ", " 1", "1  + 2", "1 +  2", "1+2", "1 +2", "1+ 2", "1 + ", " + 1", "+ 1", "+1", "1 +", "1 + + 2", "1 2",
    "\n1", "1\n", "1\t+ 2", "1 +\n2", "1 + 2 ", "1,2", "1, 2", "1 ++ 2", "1 <= 2", "1 > 2", "1 == 2",
    "(1)", "((-1))", "(1 + 2)", "((1 + 2))", "(1 * 2) + 3", "1 + (2 * 3)", "(1 - 2) - 3", "-(1)", "-(-(1))", "(-(1 + 2))",
    "1 + (2)", "(yes)", '("a")', "(bills!a1)", "(sum(1))", "(if(1, 2, 3))", "((1/2))", "(-1", "-1)", "(1/2", "1/2", "1/2)",
    "(1 + 2", "1 + 2)", "(1 + 2) *", "(1 + 2)3", "()", "(", ")", "( -1)", "(-1 )", "(- 1)", "- 1", "-", "--", "1 -", "1-1",
    "-1/2", "(-0)", "(0/1)", "(2/4)", "(1/1)", "(1/0)", "(01/2)", "(-01)", "(1/02)", "(+1)", "(1/2/3)", "(/2)", "(1/)", "(/)",
    "01", "00", "1.0", "9" * 16, "(-" + "9" * 16 + ")", "(1/" + "9" * 16 + ")", "\u0661", "\u00b2", "\uff11",
    '"', '"a', 'a"', '"a""', '""a"', '"a"b"', "'a'", '"' + "x" * 41 + '"', '"\n"', '"\\"', '"' + chr(37) + '"', '"\u00e9"',
    "Yes", "NO", "yesno", "yes no", "true", "None", "y", "yes()", "yes(1)", "no!", "#kind", "kind",
    "#gone", "#gone + 1", "1 + #gone", "-#gone", "sum(#gone)", "sum(#gone:#gone)", "if(#gone, 1, 2)", "#",
    "bills", "bills!", "bills!a", "bills!1", "bills!1a", "bills!a 1", "bills! a1", "bills !a1", "bills!a1 ", "bills!a1a",
    "bills!A1", "Bills!a1", "bills!a0", "bills!a01", "bills!a001", "bills!a+1", "bills!a-1", "bills!a13", "bills!d1",
    "bills!aa1", "bills!a1.0", "bills!a\u0661", "bills!a" + "1" * 3000, "bills!" + "a" * 3000 + "1", "bills!!a1", "!a1",
    "bill!a1", "billss!a1", "no!a1", "none!a1", "wide!m1", "wide!aa1", "wide!a2", "wide!a", "bills!b12b12", "a1",
    "bills!a1:bills!b2", "1 + bills!a1:bills!b2", "-bills!a1:bills!b2", "if(bills!a1:bills!b2, 1, 2)", "(bills!a1:bills!b2)",
    "sum((bills!a1:bills!b2))", "sum(-bills!a1:bills!b2)", "sum(bills!a1:bills!b2 + 1)", "sum(bills!a1:b2)", "sum(a1:b2)",
    "sum(bills!a1:sum!b2)", "sum(bills!a1 :bills!b2)", "sum(bills!a1: bills!b2)", "sum(bills!a1:bills!d2)",
    "sum(bills!a1:bills!b13)", "sum(bills!a0:bills!b2)", "sum(bills!a1:bills!b02)", "sum(bills!a1:bills!b2:bills!c3)",
    "sum(bills!a1:)", "sum(:bills!a1)", "sum(bills!a1:bills!)", "sum(bills!a1:bills!b)", "sum(bills!a1::bills!b2)",
    "sum", "sum(", "sum()", "sum(1", "sum(1,)", "sum(1, )", "sum(1,2)", "sum(1 ,2)", "sum(1 , 2)", "sum(1,  2)", "sum( 1)",
    "sum(1 )", "sum (1)", "sum(, 1)", "sum(1))", "sum(1)(2)", "sum(1; 2)", "Sum(1)", "sums(1)", "min(1)", "minus(1)", "op(1)",
    "sum(1, 1, 1, 1, 1, 1, 1)", "call(1)", "value(1)", "here(1)", "here", "sum(1) sum(1)",
    "if", "if(", "if()", "if(1)", "if(1, 2)", "if(1, 2, 3", "if(1, 2, 3, 4)", "if(1,2,3)", "If(1, 2, 3)", "if (1, 2, 3)",
    "if(1, 2, 3) 4", "if(1, 2, 3) +", "iff(1, 2, 3)",
]


def some_tree(chance, deep):
    """Some tree in which nothing is gone, at most so deep."""
    if deep == 1 or chance.random() < 0.15:
        return chance.choice(LEAVES)
    kind = chance.choice(["minus", "op", "op", "op", "if", "call"])
    if kind == "minus":
        return ("minus", some_tree(chance, deep - 1))
    if kind == "op":
        return ("op", chance.choice(SIGNS), some_tree(chance, deep - 1), some_tree(chance, deep - 1))
    if kind == "if":
        return ("if", *[some_tree(chance, deep - 1) for _ in range(3)])
    members = [
        chance.choice(AREAS) if chance.random() < 0.4 else some_tree(chance, deep - 1)
        for _ in range(chance.randint(1, 6))
    ]
    return call(chance.choice(["sum", "count", "least", "most"]), *members)


def small_trees():
    """All trees of two signs at most, and such within calls."""
    below = [A, number(-1), ("minus", A)]
    ops = [("op", sign, one, other) for sign in SIGNS for one in below for other in below]
    both = below + ops
    yield from both
    for sign in SIGNS:
        yield from [("op", sign, one, other) for one in both for other in below]
        yield from [("op", sign, one, other) for one in below for other in ops]
    yield from [("minus", tree) for tree in both]
    yield from [call("sum", tree, AREAS[0], tree) for tree in both]
    yield from [("if", tree, A, tree) for tree in both]


class ReadTreeTest(unittest.TestCase):
    def reads(self, tree):
        told = printed(BOOK, tree)
        for some_book in (BOOK, OTHER_BOOK):
            for same in (told, own(told)):
                found = read_tree(some_book, same)
                self.assertEqual(found, tree, told)
                self.assertTrue(is_plain(found))
        return told

    def refuses(self, wrong, some_book=BOOK):
        with self.assertRaises(InvalidText) as caught:
            read_tree(some_book, wrong)
        self.assertIs(caught.exception.value, wrong)

    def test_leaves(self):
        for tree in LEAVES:
            self.reads(tree)
            self.reads(("minus", tree))

    def test_areas(self):
        for thing in AREAS:
            self.reads(call("sum", thing))
            self.reads(call("most", A, thing, A, thing))

    def test_some_prints(self):
        self.assertEqual(read_tree(BOOK, "bills!b3"), cell("bills", 2, 1))
        self.assertEqual(read_tree(BOOK, "yes!b1"), cell("yes", 1, 0))
        self.assertEqual(read_tree(BOOK, "wide!l1"), cell("wide", 0, 11))
        self.assertEqual(read_tree(book=BOOK, text="--(-1)"), ("minus", ("minus", number(-1))))
        self.assertEqual(read_tree(BOOK, "1 - 1 * 1"), ("op", "-", A, ("op", "*", A, A)))
        self.assertEqual(read_tree(BOOK, "sum(bills!a2:bills!c1)"), call("sum", area("bills", 1, 0, 0, 2)))
        self.assertEqual(read_tree(BOOK, "-1 * 1"), ("op", "*", ("minus", A), A))
        self.assertEqual(read_tree(BOOK, "-(1 * 1)"), ("minus", ("op", "*", A, A)))

    def test_all_small_trees_and_no_two_with_one_print(self):
        prints = {}
        for tree in small_trees():
            told = self.reads(tree)
            self.assertEqual(prints.setdefault(told, tree), tree)
        self.assertGreater(len(prints), 2500)

    def test_big_trees(self):
        chance = random.Random(11)
        found = 0
        while found < 600:
            tree = some_tree(chance, chance.randint(2, 12))
            if is_tree(tree):
                self.reads(tree)
                found += 1

    def test_trees_at_the_bounds(self):
        for tree in (chain(12), bush(39), bush(40)):
            self.reads(tree)
        left, right, first, last, third = A, A, A, A, A
        for _ in range(11):
            left, right, third = ("op", "-", left, A), ("op", "-", A, right), ("if", A, A, third)
            first, last = call("sum", first, A), call("sum", A, last)
        for tree in (left, right, first, last, third):
            self.reads(tree)
        for leaf in (number(-1), cell("bills", 0, 0)):
            tree = leaf
            for _ in range(11):
                tree = ("op", "*", ("minus", tree), A) if tree[0] == "op" else ("op", "+", tree, A)
            if is_tree(tree):
                self.reads(tree)
        self.reads(call("sum", *[call("sum", *[AREAS[0]] * 6)] * 5, call("sum", *[AREAS[0]] * 3)))

    def test_trees_beyond_the_bounds(self):
        self.refuses("-" * 12 + "1")
        self.refuses(" + ".join("1" * 13))
        self.refuses(" + ".join("1" * 21))
        self.refuses("1 - (" * 12 + "1 - 1" + ")" * 12)
        self.refuses("sum(" * 12 + "1" + ")" * 12)
        self.reads(read_tree(BOOK, "sum(" * 11 + "1" + ")" * 11))
        self.reads(read_tree(BOOK, " + ".join("1" * 12)))
        five = "sum(" + ", ".join("11111") + ")"
        self.refuses(f"sum({', '.join([five] * 6)}) + sum(1, 1)")
        self.reads(read_tree(BOOK, f"sum({', '.join([five] * 6)}) + 1"))

    def test_what_is_no_print(self):
        for wrong in NO_PRINTS:
            self.refuses(wrong)

    def test_what_is_no_string(self):
        for wrong in [*ODD_THINGS, None, b"1", ["1"], ("1",), A, ("number", 1, 1)]:
            self.refuses(wrong)

    def test_long_texts(self):
        for part in [
            "(", ")", "()", "((", "-", "- ", "-(", "+", " + ", "*", "<", "&", "=", "/", "1", "0", "9", "1/", "(1/", "(-1", '"',
            '""', "!", "#", ":", ", ", " ", "a", "a!", "a1", "sum(", "if(", "sum(1, ", "bills!", "bills!a", "bills!a1:", "yes", "1 + ",
            "1 + (", "(1) + ", "-1 - ", "(1 + 2) * ",
        ]:
            text_of_parts = part * (4000 // len(part))
            for wrong in (text_of_parts, text_of_parts + "1", text_of_parts[:3999] + ")"):
                self.refuses(wrong)
        for half in (2000, 1333, 100, 13):
            self.refuses("(" * half + "1" + ")" * half)
            self.refuses("(" * half + "-1" + ")" * half)
            self.refuses("sum(" * (half // 2) + "1" + ")" * (half // 2) if half > 26 else "-" * 13 + "1")
        self.refuses(" + ".join("1" * 1000))
        self.refuses("sum(" + ", ".join("1" * 1300) + ")")

    def test_it_hangs_on_the_places_in_the_book(self):
        tree = cell("bills", 1, 1)
        for rows, columns, told in (
            (ROWS[:2], COLUMNS[:2], "bills!b2"), (ROWS[1:3], COLUMNS[:2], "bills!b1"), (ROWS[:2], COLUMNS[1::-1], "bills!a2"),
        ):
            other = book(("bills", rows, columns, ()))
            self.assertEqual(printed(other, tree), told)
            self.assertEqual(read_tree(other, told), tree)
        self.refuses("bills!b2", book(("bills", ROWS[:1], COLUMNS[:2], ())))
        self.refuses("bills!b2", book(("bills", ROWS[:2], COLUMNS[:1], ())))
        self.refuses("bills!a1", book(("bills", (), (), ())))
        self.refuses("bills!a1", book(("bill", ROWS, COLUMNS[:3], ())))

    def test_sheets_with_words_of_formulas_as_names(self):
        wordy = book(*WORDY)
        self.assertEqual(read_tree(wordy, "if!a1"), cell("if", 0, 0))
        tree = ("if", cell("if", 0, 1), call("sum", area("sum", 0, 0, 1, 1)), cell("yes", 0, 0))
        self.assertEqual(printed(wordy, tree), "if(if!b1, sum(sum!a1:sum!b2), yes!b2)")
        self.assertEqual(read_tree(wordy, printed(wordy, tree)), tree)
        self.refuses("no!a1", wordy)

    def test_more_columns_than_a_book_has(self):
        desk = Desk((("wide", ROWS[:1], COLUMNS, ()),))
        for place, letters in ((25, "z"), (26, "aa"), (29, "ad")):
            self.assertEqual(read_tree(desk, f"wide!{letters}1"), cell("wide", 0, place))
        self.refuses("wide!ae1", desk)

    def test_whatever_is_read_is_printed_so(self):
        chance = random.Random(12)
        signs = '1-0/()+*<=&, "a!:bsumyenoif#'
        for tree in [tree for tree in small_trees()][::40] + [call("sum", thing) for thing in AREAS] + LEAVES:
            told = printed(BOOK, tree)
            for at in range(len(told) + 1):
                sign = chance.choice(signs)
                for near in (told[:at] + told[at + 1:], told[:at] + sign + told[at:], told[:at] + sign + told[at + 1:]):
                    self.read_or_refused(near)

    def read_or_refused(self, near):
        try:
            tree = read_tree(BOOK, near)
        except InvalidText as error:
            self.assertIs(error.value, near)
            return
        self.assertTrue(is_tree(tree))
        self.assertEqual(printed(BOOK, tree), near)


if __name__ == "__main__":
    unittest.main()
