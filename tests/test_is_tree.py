"""[9]: which trees there are."""

import unittest

from ledgerloom.trees import is_tree
from tests.helper import (
    COLUMNS, ODD_THINGS, ROWS, area, bush, call, cell, chain, count_of, depth_of, number, own, text, truth,
)

SIGNS = ["+", "-", "*", "/", "&", "=", "<"]
CALLS = ["sum", "count", "least", "most"]
ONE = number(1)
HERE = ("here", COLUMNS[0])
AREA = area("main", 0, 0, 3, 3)

TREES = [
    number(0), number(-3), number(1, 2), number(999999999999999), text(""), text("a" * 40), truth(0), truth(1),
    cell("main", 0, 0), cell("abcdefgh", 3, 2), cell("a", 29, 29), cell("all", 1, 1),
    ("minus", ONE), ("minus", ("minus", cell("main", 0, 1))),
    ("if", truth(1), ONE, text("a")), ("if", ("op", "<", ONE, ONE), ("if", ONE, ONE, ONE), ("minus", ONE)),
    *[("op", sign, ONE, text("a")) for sign in SIGNS],
    *[call(word, ONE) for word in CALLS],
    *[call(word, AREA) for word in CALLS],
    call("sum", AREA, ONE, AREA, call("count", AREA)),
    call("sum", ONE, ONE, ONE, ONE, ONE, ONE),
    call("most", AREA, AREA, AREA, AREA, AREA, AREA),
    ("op", "&", ("if", call("sum", AREA), ("minus", ONE), ONE), ("op", "=", ONE, ONE)),
]


def around(tree):
    """Trees that hold this one, at each place where one may stand."""
    yield ("minus", tree)
    yield ("op", "+", tree, ONE)
    yield ("op", "+", ONE, tree)
    yield ("if", tree, ONE, ONE)
    yield ("if", ONE, tree, ONE)
    yield ("if", ONE, ONE, tree)
    for at in range(3):
        members = [ONE, ONE, ONE]
        members[at] = tree
        yield call("sum", *members)


class IsTreeTest(unittest.TestCase):
    def let(self, tree):
        self.assertIs(is_tree(tree), True, tree)

    def barred(self, value):
        self.assertIs(is_tree(value), False, value)

    def test_trees_of_each_kind(self):
        for tree in TREES:
            self.let(tree)
            self.let(own(tree))
            self.assertIs(is_tree(value=tree), True)
            for whole in around(tree):
                self.let(whole)

    def test_things_of_any_kind_anywhere(self):
        for thing in [*ODD_THINGS, None, ("number", 1, 1), ("text", "a"), ("error", "gone"), HERE]:
            self.barred(thing)
            for whole in around(thing):
                self.barred(whole)
                for wider in around(whole):
                    self.barred(wider)

    def test_values_that_no_tree_may_hold(self):
        for value in (None, ("error", "kind"), ("error", "gone"), ("number", 2, 2), ("truth", True), ("text", "a" * 41)):
            self.barred(("value", value))
        for thing in ODD_THINGS:
            self.barred(("value", thing))

    def test_unknown_signs(self):
        for sign in ["", "++", ">", "<=", " + ", "minus", "sum", None, 0, True, ("+",), ["+"], *ODD_THINGS]:
            self.barred(("op", sign, ONE, ONE))
        for sign in SIGNS:
            self.barred(("op", sign + sign, ONE, ONE))

    def test_unknown_words(self):
        for word in ["", "Sum", "sums", "min", "if", "+", "value", "area", None, 0, ("sum",), ["sum"], *ODD_THINGS]:
            self.barred(call(word, ONE))
            self.barred(call(word, AREA))
        for word in ["", "Value", "values", "plus", "sum", "ops", "range", "+", None, 0, ("op",), ["if"]]:
            for many in range(6):
                self.barred((word,) + (ONE,) * many)
            self.barred((word, "+", ONE, ONE))
            self.barred((word, "main", ROWS[0], COLUMNS[0]))
            self.barred((word, "sum", (ONE,)))
            self.barred((word, ONE))

    def test_areas_stand_only_in_calls(self):
        self.barred(AREA)
        for whole in list(around(AREA))[:6]:
            self.barred(whole)
            self.barred(call("sum", whole))
        self.barred(call("sum", ("minus", AREA)))
        self.barred(call("sum", AREA, ("op", "+", AREA, ONE)))
        self.let(call("sum", AREA, call("sum", AREA)))

    def test_here_stands_nowhere(self):
        self.barred(HERE)
        self.barred(call("count", AREA, HERE))
        for whole in around(HERE):
            self.barred(whole)

    def test_names_of_sheets(self):
        for name in ("a", "zz", "abcdefgh", "all"):
            self.let(("cell", name, ROWS[0], COLUMNS[0]))
            self.let(call("sum", ("area", name, ROWS[0], COLUMNS[0], ROWS[1], COLUMNS[1])))
        for name in ["", "abcdefghi", "A", "a1", "a b", " a", "a!", "\u00e4", "a\n", 1, None, ("a",), ["a"], *ODD_THINGS]:
            if name not in ("ann", "value"):
                self.barred(("cell", name, ROWS[0], COLUMNS[0]))
                self.barred(call("sum", ("area", name, ROWS[0], COLUMNS[0], ROWS[1], COLUMNS[1])))

    def test_marks(self):
        for mark in [
            (0, "", 0, 0), (1, "ann", 1, 1), (999999, "abcdefgh", 99, 99), (5, "all", 0, 0), (999999, "", 0, 99),
        ]:
            self.mark_is(True, mark)
            self.mark_is(True, own(mark))
        for mark in [
            (1000000, "", 0, 0), (-1, "", 0, 0), (0, "", 100, 0), (0, "", -1, 0), (0, "", 0, 100), (0, "", 0, -1),
            (0, "A", 0, 0), (0, "abcdefghi", 0, 0), (0, " ", 0, 0), (0, "a b", 0, 0), (0, None, 0, 0), (0, 0, 0, 0),
            (0, (), 0, 0), (0, ["a"], 0, 0), (True, "", 0, 0), (False, "", 0, 0), (0, "", True, 0), (0, "", False, 0),
            (0, "", 0, True), (0, "", 0, False), (None, "", 0, 0), (0, "", None, 0), (0, "", 0, None),
            ("0", "", 0, 0), (0, "", "0", 0), (0, "", 0, "0"), [0, "", 0, 0], (0, "", 0), (0, "", 0, 0, 0), (), "", None,
            (0, "", 0, (0,)), 0, "a", (("a",) * 4), *ODD_THINGS,
        ]:
            self.mark_is(False, mark)

    def mark_is(self, told, mark):
        right = ROWS[0]
        wholes = [("cell", "main", mark, right), ("cell", "main", right, mark)]
        for at in range(4):
            corners = [right] * 4
            corners[at] = mark
            wholes.append(call("sum", ("area", "main", *corners)))
        for whole in wholes:
            self.assertIs(is_tree(whole), told, whole)

    def test_numbers_of_members_of_calls(self):
        for word in CALLS:
            for member in (ONE, AREA):
                for many in range(9):
                    self.assertIs(is_tree(call(word, *[member] * many)), 1 <= many <= 6)
            for members in ([ONE], ONE, None, AREA, (), ((ONE,),), "abc", ("a",), ([ONE],), [], {}):
                self.barred(("call", word, members))

    def test_too_short_and_too_long(self):
        for tree in [*TREES, AREA]:
            for many in range(len(tree)):
                self.barred(tree[:many])
                self.barred(call("sum", tree[:many]))
            for thing in (None, ONE, (), ROWS[0]):
                self.barred(tree + (thing,))
                self.barred(call("sum", tree + (thing,)))
            self.barred((tree,))

    def test_lists_in_place_of_tuples(self):
        for tree in TREES:
            self.barred(list(tree))
            for whole in around(list(tree)):
                self.barred(whole)
        self.barred(call("sum", list(AREA)))

    def test_depth(self):
        for deep in range(1, 20):
            tree = chain(deep)
            self.assertEqual(depth_of(tree), deep)
            self.assertIs(is_tree(tree), deep <= 12)
        for whole in around(chain(11)):
            self.let(whole)
        for whole in around(chain(12)):
            self.barred(whole)
        deep = AREA
        for _ in range(11):
            deep = call("sum", deep)
        self.let(deep)
        self.barred(call("sum", deep))
        self.barred(call("sum", ONE, deep))
        for leaf in (cell("main", 0, 0), text("a"), truth(0)):
            for whole in around(leaf):
                while depth_of(whole) < 12:
                    whole = ("minus", whole)
                self.let(whole)
                self.barred(("minus", whole))

    def test_number_of_trees(self):
        for many in range(1, 80):
            tree = bush(many)
            self.assertEqual(count_of(tree), many)
            self.assertIs(is_tree(tree), many <= 40, many)

    def test_areas_count_among_the_trees(self):
        full = call("sum", *[AREA] * 6)
        wide = call("sum", full, full, full, full, full)
        self.assertEqual(count_of(wide), 36)
        for many, member in ((38, call("sum", AREA)), (39, call("sum", AREA, AREA)), (40, call("sum", *[AREA] * 3))):
            whole = call("sum", full, full, full, full, full, member)
            self.assertEqual(count_of(whole), many)
            self.let(whole)
        whole = call("sum", full, full, full, full, full, call("sum", *[AREA] * 4))
        self.assertEqual(count_of(whole), 41)
        self.barred(whole)
        self.barred(("minus", call("sum", full, full, full, full, full, call("sum", *[AREA] * 3))))

    def test_big_things_are_told_quickly(self):
        thing = ONE
        for _ in range(59):
            thing = ("minus", thing)
        self.barred(thing)
        for _ in range(60):
            thing = ("op", "+", thing, thing)
        self.barred(thing)
        self.barred(call("sum", *[ONE] * 9000))


if __name__ == "__main__":
    unittest.main()
