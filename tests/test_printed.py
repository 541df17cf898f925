"""[11]: how trees are printed in a book."""

import unittest

from ledgerloom.errors import InvalidTree
from ledgerloom.trees import printed
from tests.helper import (
    COLUMNS, Desk, ODD_THINGS, ROWS, area, book, bush, call, cell, chain, number, own, text, truth,
)

SIGNS = ["+", "-", "*", "/", "&", "=", "<"]
BINDS = {"=": 1, "<": 1, "&": 2, "+": 3, "-": 3, "*": 4, "/": 4}
A, B, C = number(1), number(2), number(3)
SHEETS = (
    ("bills", ROWS[:12], COLUMNS[:6], ((ROWS[0], COLUMNS[0], ("=", number(1))),)),
    ("empty", (), (), ()),
    ("wide", ROWS[1::-1], COLUMNS[:12], ()),
    ("yes", ROWS[2:4], COLUMNS[3:4], ()),
)
BOOK = book(*SHEETS)
OTHER_BOOKS = (
    book(*own(SHEETS), owner="bob"),
    book(*SHEETS, views=(("all", "bills", number(1), ()),), rights=(("all", "bills", None, "none"),)),
)


class PrintedTest(unittest.TestCase):
    def prints(self, tree, told):
        for some_book in (BOOK, *OTHER_BOOKS):
            for same in (tree, own(tree)):
                found = printed(some_book, same)
                self.assertEqual(found, told)
                self.assertIs(type(found), str)

    def test_numbers(self):
        for p, q, told in (
            (0, 1, "0"), (7, 1, "7"), (999999999999999, 1, "9" * 15), (-1, 1, "(-1)"), (1, 2, "(1/2)"),
            (-1, 2, "(-1/2)"), (3, 2, "(3/2)"), (-999999999999999, 1, "(-" + "9" * 15 + ")"),
        ):
            self.prints(number(p, q), told)

    def test_texts_and_truths(self):
        self.prints(text(""), '""')
        self.prints(text("a (b), c!"), '"a (b), c!"')
        self.prints(text("#gone"), '"#gone"')
        self.prints(truth(1), "yes")
        self.prints(truth(0), "no")

    def test_cells(self):
        self.prints(cell("bills", 0, 0), "bills!a1")
        self.prints(cell("bills", 11, 5), "bills!f12")
        self.prints(cell("bills", 9, 1), "bills!b10")
        self.prints(cell("yes", 2, 3), "yes!a1")
        self.prints(cell("yes", 3, 3), "yes!a2")

    def test_places_and_not_marks_are_printed(self):
        self.prints(cell("wide", 1, 0), "wide!a1")
        self.prints(cell("wide", 0, 0), "wide!a2")
        other = book(("bills", (ROWS[4], ROWS[1]), (COLUMNS[9], COLUMNS[2]), ()))
        self.assertEqual(printed(other, cell("bills", 1, 9)), "bills!a2")
        self.assertEqual(printed(other, cell("bills", 4, 2)), "bills!b1")
        tall = book(("bills", ROWS[::-1], COLUMNS[2::-1], ()))
        self.assertEqual(printed(tall, cell("bills", 0, 0)), "bills!c30")
        self.assertEqual(printed(tall, call("sum", area("bills", 0, 2, 29, 0))), "sum(bills!a30:bills!c1)")

    def test_columns(self):
        for place, letter in enumerate("abcdefghijkl"):
            self.prints(cell("wide", 1, place), f"wide!{letter}1")

    def test_more_columns_than_a_book_has(self):
        columns = tuple((clock, "", 0, 0) for clock in range(800))
        desk = Desk((("bills", ROWS, columns, ()),))
        for place, letters in (
            (25, "z"), (26, "aa"), (29, "ad"), (51, "az"), (52, "ba"), (700, "zy"), (701, "zz"), (702, "aaa"), (728, "aba"),
        ):
            self.assertEqual(printed(desk, ("cell", "bills", ROWS[0], columns[place])), f"bills!{letters}1")

    def test_areas(self):
        self.prints(call("sum", area("bills", 0, 0, 3, 2)), "sum(bills!a1:bills!c4)")
        self.prints(call("sum", area("bills", 3, 2, 0, 0)), "sum(bills!c4:bills!a1)")
        self.prints(call("count", area("bills", 3, 0, 0, 2)), "count(bills!a4:bills!c1)")
        self.prints(call("most", area("bills", 1, 1, 1, 1)), "most(bills!b2:bills!b2)")

    def test_what_is_gone(self):
        for gone in (cell("none", 0, 0), cell("empty", 0, 0), cell("bills", 12, 0), cell("bills", 0, 6), cell("yes", 0, 3)):
            self.prints(gone, "#gone")
            self.prints(("op", "+", gone, A), "#gone + 1")
            self.prints(("minus", gone), "-#gone")
        self.prints(("cell", "bills", COLUMNS[0], COLUMNS[0]), "#gone")
        self.prints(("cell", "bills", ROWS[0], ROWS[0]), "#gone")
        for gone in (
            area("none", 0, 0, 0, 0), area("empty", 0, 0, 0, 0), area("bills", 12, 0, 0, 0), area("bills", 0, 6, 0, 0),
            area("bills", 0, 0, 12, 0), area("bills", 0, 0, 0, 6), area("bills", 20, 20, 20, 20),
        ):
            self.prints(call("sum", gone), "sum(#gone)")
            self.prints(call("sum", gone, area("bills", 0, 0, 1, 1), gone), "sum(#gone, bills!a1:bills!b2, #gone)")
        self.prints(cell("wide", 0, 12), "#gone")
        self.assertEqual(printed(book(("bills", (), COLUMNS[:2], ())), cell("bills", 0, 0)), "#gone")
        self.prints(("cell", "bills", (1, "ann", 0, 0), COLUMNS[0]), "#gone")
        self.prints(("cell", "bills", (1, "", 1, 0), COLUMNS[0]), "#gone")

    def test_if_and_calls(self):
        self.prints(("if", truth(1), A, text("b")), 'if(yes, 1, "b")')
        self.prints(("if", ("op", "<", A, B), ("minus", A), ("if", A, B, C)), "if(1 < 2, -1, if(1, 2, 3))")
        for word in ("sum", "count", "least", "most"):
            self.prints(call(word, A), f"{word}(1)")
            self.prints(call(word, A, ("op", "=", A, B), number(-1)), f"{word}(1, 1 = 2, (-1))")
        self.prints(call("sum", A, A, A, A, A, A), "sum(1, 1, 1, 1, 1, 1)")

    def test_minus(self):
        self.prints(("minus", A), "-1")
        self.prints(("minus", number(-1)), "-(-1)")
        self.prints(("minus", number(1, 2)), "-(1/2)")
        self.prints(("minus", ("minus", A)), "--1")
        self.prints(("minus", text("a")), '-"a"')
        self.prints(("minus", call("sum", ("op", "+", A, B))), "-sum(1 + 2)")
        self.prints(("minus", ("if", A, B, C)), "-if(1, 2, 3)")
        for sign in SIGNS:
            op = ("op", sign, A, B)
            self.prints(("minus", op), f"-(1 {sign} 2)")
            self.prints(("minus", ("minus", op)), f"--(1 {sign} 2)")
            self.prints(("op", sign, ("minus", A), ("minus", B)), f"-1 {sign} -2")

    def test_brackets_for_each_pair_of_signs(self):
        for outer in SIGNS:
            for inner in SIGNS:
                op = ("op", inner, A, B)
                left = f"(1 {inner} 2)" if BINDS[inner] < BINDS[outer] else f"1 {inner} 2"
                right = f"(1 {inner} 2)" if BINDS[inner] <= BINDS[outer] else f"1 {inner} 2"
                self.prints(("op", outer, op, C), f"{left} {outer} 3")
                self.prints(("op", outer, C, op), f"3 {outer} {right}")
                self.prints(("op", outer, op, op), f"{left} {outer} {right}")
                self.prints(("op", outer, ("minus", op), C), f"-(1 {inner} 2) {outer} 3")

    def test_some_brackets_told_out(self):
        self.prints(("op", "*", ("op", "+", A, B), C), "(1 + 2) * 3")
        self.prints(("op", "+", ("op", "*", A, B), C), "1 * 2 + 3")
        self.prints(("op", "-", A, ("op", "-", B, C)), "1 - (2 - 3)")
        self.prints(("op", "-", ("op", "-", A, B), C), "1 - 2 - 3")
        self.prints(("op", "&", ("op", "=", A, B), ("op", "+", B, C)), "(1 = 2) & 2 + 3")
        self.prints(("op", "<", ("op", "=", A, B), ("op", "&", B, C)), "1 = 2 < 2 & 3")
        self.prints(("op", "=", A, ("op", "<", B, C)), "1 = (2 < 3)")
        self.prints(("op", "/", number(1, 2), number(-3)), "(1/2) / (-3)")
        self.prints(("op", "+", ("if", A, B, C), call("sum", A)), "if(1, 2, 3) + sum(1)")

    def test_trees_at_the_bounds(self):
        self.prints(chain(12), "-" * 11 + "1")
        self.assertEqual(printed(BOOK, bush(39)).count("1"), 20)

    def test_by_name(self):
        self.assertEqual(printed(book=BOOK, tree=A), "1")
        self.assertEqual(printed(tree=B, book=BOOK), "2")

    def test_refuses(self):
        for wrong in [
            *ODD_THINGS, None, ("number", 1, 1), ("value", None), ("value", ("error", "gone")), list(A), ("here", COLUMNS[0]),
            area("bills", 0, 0, 1, 1), ("minus", ("here", COLUMNS[0])), ("op", ">", A, B), call("sum"), chain(13), bush(41),
            ("op", "+", A, list(B)), ("cell", "bills", (True, "", 0, 0), COLUMNS[0]),
        ]:
            with self.assertRaises(InvalidTree) as caught:
                printed(BOOK, wrong)
            self.assertIs(caught.exception.value, wrong)


if __name__ == "__main__":
    unittest.main()
