"""Reading the print of a formula."""

from ledgerloom.amounts import SIGNS, TRUTH_WORDS, number_from
from ledgerloom.basics import FIGURES, LETTERS, named
from ledgerloom.errors import InvalidText
from ledgerloom.places import column_at, row_at
from ledgerloom.walking import Walker

# How much a sign binds, against the others; a minus ahead of one tree binds more than they all.
BINDS = {"=": 0, "<": 0, "&": 1, "+": 2, "-": 2, "*": 3, "/": 3}
MINUS_BINDS = 4
DEEPEST = 12


class Reader(Walker):
    """Goes through a text once and makes the tree that could be printed so.

    It is lax: also what is printed in another way, or is no tree, may come of a text, and what is left
    of it is not looked at. So the caller has to print what comes, and to compare.
    """

    def __init__(self, sheets, text):
        super().__init__(text)
        self.sheets = sheets

    def read_ops(self, deep, least):
        """The tree ahead, as far as the signs between its trees bind at least so much."""
        tree = self.read_operand(deep)
        sign = self.read_sign(least)
        while sign is not None:
            tree = ("op", sign, tree, self.read_ops(deep, BINDS[sign] + 1))
            sign = self.read_sign(least)
        return tree

    def read_sign(self, least):
        """The sign ahead that binds at least so much, None if there is none."""
        for sign in SIGNS:
            if BINDS[sign] >= least and self.take(f" {sign} "):
                return sign
        return None

    def read_operand(self, deep):
        """The tree ahead without any sign between two trees, but within brackets.

        Each pair of brackets and each minus ahead belong to a tree of their own; so a text in which
        they are nested deeper than a tree may be is refused here, before the recursion gets deep.
        """
        if deep > DEEPEST:
            raise InvalidText(self.text)
        if self.take("-"):
            return ("minus", self.read_operand(deep + 1))
        if self.take("("):
            return self.read_bracketed(deep + 1)
        if self.take('"'):
            return ("value", ("text", self.read_until('"')))
        figures = self.take_run(FIGURES)
        if figures != "":
            return ("value", number_from(figures))
        return self.read_word(deep)

    def read_bracketed(self, deep):
        """What stands in the brackets of which the first is read: a number or a tree."""
        inside = self.text[self.at:].partition(")")[0]
        if number_from(inside) is None:
            tree = self.read_ops(deep, 0)
            self.must_take(")")
            return tree
        return ("value", number_from(self.read_until(")")))

    def read_word(self, deep):
        """What begins with a word: a cell, an area, a truth, "if" or a call."""
        word = self.take_run(LETTERS)
        if self.take("!"):
            return self.read_places(word)
        if word in TRUTH_WORDS:
            return ("value", ("truth", TRUTH_WORDS.index(word)))
        self.must_take("(")
        members = [self.read_ops(deep + 1, 0)]
        while self.take(", "):
            members.append(self.read_ops(deep + 1, 0))
        self.must_take(")")
        return ("if", *members) if word == "if" else ("call", word, tuple(members))

    def read_places(self, name):
        """The cell or the area of which the name of the sheet and ! are read."""
        row, column = self.read_corner(name)
        if not self.take(f":{name}!"):
            return ("cell", name, row, column)
        row2, column2 = self.read_corner(name)
        return ("area", name, row, column, row2, column2)

    def read_corner(self, name):
        """The marks of the row and the column that the letters and figures ahead tell, None where there is none."""
        sheet = named(self.sheets, name)
        if sheet is None:
            raise InvalidText(self.text)
        column = column_at(sheet, self.take_run(LETTERS))
        row = row_at(sheet, self.take_run(FIGURES))
        return row, column
