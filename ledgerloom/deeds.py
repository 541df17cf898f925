"""Deeds: which there are, and the book that comes of one."""

from ledgerloom.basics import MOST_NUMBER, is_integer, is_mark, is_name, is_number_to, is_stamp, plain
from ledgerloom.books import is_content, is_rule, is_summary, is_view
from ledgerloom.drafts import book_from, draft_from
from ledgerloom.errors import InvalidDeed, InvalidStamp, Undefined
from ledgerloom.works import made_by

# What stands behind the word of each deed.
FORMS = {
    "sheet": ("name",),
    "unsheet": ("name",),
    "rows": ("name", "place", "many"),
    "unrow": ("name", "mark"),
    "moverow": ("name", "mark", "place"),
    "columns": ("name", "place", "many"),
    "uncolumn": ("name", "mark"),
    "movecolumn": ("name", "mark", "place"),
    "set": ("name", "mark", "mark", "content"),
    "clear": ("name", "mark", "mark"),
    "put": ("name", "number", "mark", "content"),
    "view": ("view",),
    "unview": ("name",),
    "summary": ("summary",),
    "unsummary": ("name",),
    "rule": ("rule",),
    "unrule": ("number",),
}
MOST_LINES_AT_ONCE = 5


def is_deed(value):
    """Whether it is a deed by its form."""
    if not isinstance(value, tuple) or len(value) == 0 or not isinstance(value[0], str) or value[0] not in FORMS:
        return False
    kinds = FORMS[value[0]]
    if len(value) != len(kinds) + 1:
        return False
    return all([is_of_kind(kind, member) for kind, member in zip(kinds, value[1:])])


def is_of_kind(kind, value):
    """Whether it is what may stand in a deed where a thing of this kind is told."""
    if kind == "name":
        return is_name(value)
    if kind == "mark":
        return is_mark(value)
    if kind == "place":
        return value is None or is_mark(value)
    if kind == "many":
        return is_integer(value) and 1 <= value <= MOST_LINES_AT_ONCE
    if kind == "number":
        return is_number_to(value, MOST_NUMBER)
    if kind == "content":
        return is_content(value)
    if kind == "view":
        return is_view(value)
    return is_summary(value) if kind == "summary" else is_rule(value)


def done(book, stamp, deed):
    """The book that the deed makes of the book, done by the stamp's person."""
    if not is_stamp(stamp):
        raise InvalidStamp(stamp)
    if not is_deed(deed):
        raise InvalidDeed(deed)
    made = made_by(draft_from(book), plain(stamp), plain(deed))
    if made is None:
        raise Undefined("void")
    return book_from(made)
