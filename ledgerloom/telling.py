"""Plain values as texts, and such texts read again."""

from ledgerloom.amounts import GREATEST, are_figures, may_stand_in_text
from ledgerloom.basics import FIGURES, is_integer
from ledgerloom.errors import InvalidText
from ledgerloom.walking import Walker

LONGEST_STRING = 60
DEEPEST_NESTED = 50


def is_plain_value(value, deep):
    """Whether it is a plain value, so many tuples standing around it."""
    if value is None:
        return True
    if isinstance(value, str):
        return len(value) <= LONGEST_STRING and all([may_stand_in_text(letter) for letter in value])
    if isinstance(value, tuple):
        return deep < DEEPEST_NESTED and all([is_plain_value(member, deep + 1) for member in value])
    return is_integer(value) and abs(value) <= GREATEST


def text_told(value):
    """The text of a plain value of plain tuples, strings and integers."""
    if value is None:
        return "none"
    if isinstance(value, str):
        return f'"{value}"'
    if isinstance(value, tuple):
        members = ", ".join([text_told(member) for member in value])
        return f"({members})"
    return str(value)


class Hearer(Walker):
    """Goes through a text once and makes the value that could be told so.

    It is lax: also what is told in another way, or is no plain value, may come of a text, and what is left
    of it is not looked at. So the caller has to tell what comes, and to compare.
    """

    def read_told(self, deep):
        """The value ahead, so many tuples standing around it."""
        if self.take("none"):
            return None
        if self.take('"'):
            return self.read_until('"')
        if self.take("("):
            return self.read_members(deep + 1)
        return self.read_integer()

    def read_members(self, deep):
        """The tuple of which the first bracket is read."""
        if deep > DEEPEST_NESTED:
            raise InvalidText(self.text)
        if self.take(")"):
            return ()
        members = [self.read_told(deep)]
        while self.take(", "):
            members.append(self.read_told(deep))
        self.must_take(")")
        return tuple(members)

    def read_integer(self):
        """The integer ahead."""
        is_below = self.take("-")
        figures = self.take_run(FIGURES)
        if not are_figures(figures):
            raise InvalidText(self.text)
        return -int(figures) if is_below else int(figures)
