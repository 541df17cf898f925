"""[25]: which things are deeds by their form."""

import unittest

from ledgerloom.deeds import is_deed
from tests.helper import (
    COLUMNS, ODD_THINGS, ROWS, VALUES_IN_ORDER, WRONG_EVERYWHERE, area, bush, call, cell, chain, found_at, nested,
    number,
    own, paths, put_at, text, truth,
)

R, C = ROWS[0], COLUMNS[0]
ONE = ("number", 1, 1)
TREE = ("op", "+", cell("bills", 0, 0), call("sum", area("bills", 0, 0, 1, 1), number(1)))
VIEW = ("few", "bills", ("op", "<", ("here", C), number(1)), ((C, "up"), (COLUMNS[1], "down")))
SUMMARY = ("most", "few", C, COLUMNS[1])
RULE = ("bob", "bills", C, "write")
DEEDS = [
    ("sheet", "bills"), ("unsheet", "bills"), ("rows", "bills", R, 2), ("rows", "bills", None, 1),
    ("unrow", "bills", R),
    ("moverow", "bills", R, ROWS[1]), ("moverow", "bills", R, None), ("columns", "bills", C, 5),
    ("columns", "bills", None, 3), ("uncolumn", "bills", C), ("movecolumn", "bills", C, COLUMNS[1]),
    ("movecolumn", "bills", C, None), ("set", "bills", R, C, ONE), ("set", "bills", R, C, ("=", TREE)),
    ("clear", "bills", R, C), ("put", "few", 0, C, ("text", "a")), ("put", "few", 99, C, ("=", TREE)), ("view", VIEW),
    ("unview", "few"), ("summary", SUMMARY), ("unsummary", "most"), ("rule", RULE),
    ("rule", ("all", "bills", None, "none")),
    ("unrule", 0), ("unrule", 99),
]
WORDS = {
    "sheet", "unsheet", "rows", "unrow", "moverow", "columns", "uncolumn", "movecolumn", "set", "clear", "put", "view",
    "unview", "summary", "unsummary", "rule", "unrule",
}
NO_MARKS = ["", "a", 0, 1, (), C[:3], C + (0,), list(C), (True, "", 0, 0), (1, "", 0, 100), (1000000, "", 0, 0),
    (None,)]
NO_NAMES = ["", "Bills", "b1", "abcdefghi", None, 1, True, ("bills",), ["bills"], b"bills", "b b"]


class IsDeedTest(unittest.TestCase):
    def let(self, deed):
        self.assertIs(is_deed(deed), True, deed)
        self.assertIs(is_deed(own(deed)), True)

    def barred(self, deed):
        self.assertIs(is_deed(deed), False, deed)

    def test_each_of_the_seventeen(self):
        for deed in DEEDS:
            self.let(deed)
        self.assertEqual({deed[0] for deed in DEEDS}, WORDS)
        self.assertEqual(len(WORDS), 17)

    def test_too_many_and_too_few_members(self):
        for deed in DEEDS:
            for more in (None, 0, "bills", R, ONE, ()):
                self.barred(deed + (more,))
            for many in range(len(deed)):
                self.barred(deed[:many])
            self.barred(deed[1:])
            self.barred((deed,))
            self.barred(list(deed))

    def test_words(self):
        for deed in DEEDS:
            for word in ["", "Set", "sets", "undo", "redo", "row", "column", None, 0, True, ("set",), ["set"],
                *ODD_THINGS]:
                self.barred((word,) + deed[1:])

    def test_words_of_others(self):
        for deed in DEEDS:
            for word in WORDS:
                told = is_deed((word,) + deed[1:])
                self.assertIs(told, any(self.alike(deed, other) for other in DEEDS if other[0] == word), (word, deed))

    def alike(self, deed, other):
        """Whether what stands behind the one's word may stand behind the other's, too."""
        kinds = [
            {"sheet", "unsheet", "unview", "unsummary"}, {"unrow", "uncolumn"}, {"rows", "columns"}, {"set"}, {"put"},
            {"moverow", "movecolumn"}, {"clear"}, {"view"}, {"summary"}, {"rule"}, {"unrule"},
        ]
        if {deed[0], other[0]} == {"moverow", "clear"} or {deed[0], other[0]} == {"movecolumn", "clear"}:
            return deed[0] == "clear" or deed[3] is not None
        return any({deed[0], other[0]} <= kind for kind in kinds)

    def test_names(self):
        for deed in DEEDS:
            if isinstance(deed[1], str):
                for name in ("a", "abcdefgh", "all", "none"):
                    self.let(put_at(deed, (1,), name))
                for name in NO_NAMES:
                    self.barred(put_at(deed, (1,), name))

    def test_marks_and_places(self):
        for deed in DEEDS:
            for place, part in enumerate(deed[1:], 1):
                if part in (*ROWS, *COLUMNS):
                    for mark in ((0, "", 0, 0), (999999, "abcdefgh", 99, 99), (5, "all", 1, 1)):
                        self.let(put_at(deed, (place,), mark))
                    for mark in NO_MARKS:
                        self.barred(put_at(deed, (place,), mark))
        for deed in DEEDS:
            for place, part in enumerate(deed[1:], 1):
                if part is None:
                    for mark in NO_MARKS:
                        self.barred(put_at(deed, (place,), mark))
        for deed in (("unrow", "bills", None), ("uncolumn", "bills", None), ("moverow", "bills", None, R),
                     ("set", "bills", None, C, ONE), ("set", "bills", R, None, ONE), ("clear", "bills", R, None),
                     ("put", "few", 0, None, ONE)):
            self.barred(deed)

    def test_numbers(self):
        for many in (1, 2, 3, 4, 5):
            self.let(("rows", "bills", R, many))
            self.let(("columns", "bills", None, many))
        for many in (0, 6, -1, 7, 10 ** 12, True, False, None, "1", (1,), [1]):
            self.barred(("rows", "bills", R, many))
            self.barred(("columns", "bills", None, many))
        for place in (0, 1, 50, 98, 99):
            self.let(("unrule", place))
            self.let(("put", "few", place, C, ONE))
        for place in (-1, 100, 101, 10 ** 12, True, False, None, "0", (0,), [0]):
            self.barred(("unrule", place))
            self.barred(("put", "few", place, C, ONE))

    def test_contents(self):
        good = [value for value in VALUES_IN_ORDER if value is not None]
        good += [("=", tree) for tree in (TREE, bush(40), chain(12), text("a"), cell("none", 9, 9))]
        bad = [
            None, 1, "1", "", (), ("=",), ("=", TREE, TREE), ("=", ONE), ("=", None), ["=", TREE],
            ("=", list(TREE)), TREE,
            ("=", ("here", C)), ("=", ("minus", ("here", C))), ("=", area("bills", 0, 0, 0, 0)), ("=", bush(41)),
            ("=", chain(13)), ("==", TREE), ("number", 2, 4), ("number", True, 1), ("truth", 2), ("truth", True),
            ("text", "a" * 41), ("error", "none"), ("value", ONE), nested(60), *ODD_THINGS,
        ]
        for ahead in (("set", "bills", R, C), ("put", "few", 3, C)):
            for content in good:
                self.let(ahead + (content,))
            for content in bad:
                self.barred(ahead + (content,))

    def test_views(self):
        for view in (
            ("a", "none", truth(1), ()), ("few", "bills", ("here", C), tuple((column, "up") for column in COLUMNS[:3])),
            ("few", "bills", bush(40), ()), ("few", "bills", chain(12), ()),
            ("few", "bills", call("sum", TREE[3][2][0]), ()),
        ):
            self.let(("view", view))
        for view in (
            None, "few", (), VIEW[:3], VIEW + (None,), list(VIEW), ("", *VIEW[1:]), ("few", None, *VIEW[2:]),
            ("few", "bills", None, ()), ("few", "bills", ("=", TREE), ()), ("few", "bills", bush(41), ()),
            ("few", "bills", chain(13), ()), ("few", "bills", TREE, None),
            ("few", "bills", TREE, ((C, "up"), (C, "down"))),
            ("few", "bills", TREE, ((C, "Up"),)), ("few", "bills", TREE, [(C, "up")]), (VIEW,), SUMMARY, RULE,
            ("few", "bills", TREE, tuple((column, "up") for column in COLUMNS[:4])), *ODD_THINGS,
        ):
            self.barred(("view", view))

    def test_summaries_and_rules(self):
        self.let(("summary", ("all", "none", C, C)))
        for summary in (None, "most", (), SUMMARY[:3], SUMMARY + (C,), list(SUMMARY), VIEW, RULE, (SUMMARY,),
            *ODD_THINGS,
                        ("most", "few", C, None), ("most", "few", None, C), ("most", 1, C, C), ("Most", "few", C, C)):
            self.barred(("summary", summary))
        for word in ("none", "read", "write"):
            for column in (None, C):
                for person in ("all", "bob", "ann"):
                    self.let(("rule", (person, "none", column, word)))
        for rule in (None, "bob", (), RULE[:3], RULE + (None,), list(RULE), VIEW, SUMMARY, (RULE,), *ODD_THINGS,
                     ("bob", "bills", C, "all"), ("bob", "bills", C, None), ("bob", "bills", "a", "read"),
                     (None, "bills", C, "read"), ("bob", None, C, "read"), ("bob", "bills", (True, "", 0, 0), "read")):
            self.barred(("rule", rule))

    def test_odd_things_in_each_place(self):
        for deed in DEEDS:
            for path in paths(deed):
                part = found_at(deed, path)
                # In a value an integer, or a string, may well be another one.
                in_value = path and found_at(deed, path[:-1])[0] in ("number", "text")
                for thing in WRONG_EVERYWHERE:
                    if not in_value or type(thing) is not type(part):
                        self.barred(put_at(deed, path, thing))
                if isinstance(part, tuple):
                    self.barred(put_at(deed, path, list(part)))
                    for thing in WRONG_EVERYWHERE:
                        self.barred(put_at(deed, path, part + (thing,)))

    def test_what_is_no_deed_at_all(self):
        deep = ()
        for _ in range(20000):
            deep = (deep,)
        for thing in [*ODD_THINGS, None, deep, ("set",), ("undo", (1, "ann", 0)), ("redo", (1, "ann", 0)), {"set": 1},
                      ((1, "ann", 0), DEEDS[0]), DEEDS[:1], DEEDS[0][0], 1.5, b"set", ("set",) * 5,
                      ("set", deep, R, C, deep)]:
            self.barred(thing)

    def test_by_name(self):
        self.assertIs(is_deed(value=DEEDS[0]), True)


if __name__ == "__main__":
    unittest.main()
