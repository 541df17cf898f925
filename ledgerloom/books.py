"""Books: which sheets, views, summaries and rights there are, and what right a person has on a column."""

from ledgerloom.amounts import is_value
from ledgerloom.basics import (
    EVERYBODY, checked_named, checked_person, is_ascending, is_mark, is_name, is_tuple_of, plain,
)
from ledgerloom.errors import InvalidMark, InvalidRights, InvalidSheets, InvalidViews
from ledgerloom.trees import is_condition, is_tree

MOST_SHEETS = 4
MOST_ROWS = 30
MOST_COLUMNS = 12
MOST_PLACES = 100
MOST_VIEWS = 6
MOST_PAIRS = 3
MOST_RULES = 20
ORDER_WORDS = ("up", "down")
RIGHT_WORDS = ("none", "read", "write")


class Book:
    """A workbook: who owns it, its sheets, their views and summaries, and who may read and write what."""

    def __init__(self, owner, sheets, views, summaries, rights):
        self.owner = checked_person(owner)
        if not are_sheets(sheets):
            raise InvalidSheets(sheets)
        if not are_views(views):
            raise InvalidViews(views)
        if not are_summaries(summaries):
            raise InvalidViews(summaries)
        if not are_rights(rights):
            raise InvalidRights(rights)
        self.sheets = plain(sheets)
        self.views = plain(views)
        self.summaries = plain(summaries)
        self.rights = plain(rights)

    def __eq__(self, other):
        return (
            isinstance(other, Book)
            and self.owner == other.owner
            and self.sheets == other.sheets
            and self.views == other.views
            and self.summaries == other.summaries
            and self.rights == other.rights
        )


def are_at_most(value, most, is_right):
    """Whether it is a tuple, perhaps (), of at most so many members, each of which is right."""
    if not isinstance(value, tuple) or len(value) > most:
        return False
    return all([is_right(member) for member in value])


def are_sheets(value):
    """Whether it is sheets: 1 to 4, ascending by name, with few enough places together."""
    if not are_at_most(value, MOST_SHEETS, is_sheet) or len(value) == 0:
        return False
    places = sum([len(rows) * len(columns) for _, rows, columns, _ in value])
    return places <= MOST_PLACES and is_ascending([sheet[0] for sheet in value])


def is_sheet(value):
    """Whether it is a sheet: (name, rows, columns, cells)."""
    if not is_tuple_of(value, 4):
        return False
    name, rows, columns, cells = value
    if not is_name(name) or not are_marks(rows, MOST_ROWS) or not are_marks(columns, MOST_COLUMNS):
        return False
    return are_cells(cells, rows, columns)


def are_marks(value, most):
    """Whether it is a tuple of at most so many marks, none of them twice."""
    return are_at_most(value, most, is_mark) and len(set(value)) == len(value)


def are_cells(value, rows, columns):
    """Whether it is the cells of a sheet with these rows and columns, ascending."""
    if not are_at_most(value, len(rows) * len(columns), is_filled_cell):
        return False
    there = [row in rows and column in columns for row, column, _ in value]
    return all(there) and is_ascending([(row, column) for row, column, _ in value])


def is_filled_cell(value):
    """Whether it is (row, column, content), of any marks."""
    return is_tuple_of(value, 3) and is_mark(value[0]) and is_mark(value[1]) and is_content(value[2])


def is_content(value):
    """Whether it is a content: a value but None, or a formula."""
    if is_tuple_of(value, 2) and value[0] == "=":
        return is_tree(value[1])
    return value is not None and is_value(value)


def are_views(value):
    """Whether it is views, ascending by name."""
    return are_at_most(value, MOST_VIEWS, is_view) and is_ascending([view[0] for view in value])


def is_view(value):
    """Whether it is a view: (name, sheet, condition, order)."""
    if not is_tuple_of(value, 4):
        return False
    name, sheet, condition, order = value
    return is_name(name) and is_name(sheet) and is_condition(condition) and is_order(order)


def is_order(value):
    """Whether it is the order of a view: pairs of a column and a word, no column twice."""
    return are_at_most(value, MOST_PAIRS, is_order_pair) and are_marks(tuple([pair[0] for pair in value]), MOST_PAIRS)


def is_order_pair(value):
    """Whether it is (column, word), whatever the column is."""
    return is_tuple_of(value, 2) and value[1] in ORDER_WORDS


def are_summaries(value):
    """Whether it is summaries, ascending by name."""
    return are_at_most(value, MOST_VIEWS, is_summary) and is_ascending([summary[0] for summary in value])


def is_summary(value):
    """Whether it is a summary: (name, view, key, sum)."""
    if not is_tuple_of(value, 4):
        return False
    name, view, key, total = value
    return is_name(name) and is_name(view) and is_mark(key) and is_mark(total)


def are_rights(value):
    """Whether it is rights."""
    return are_at_most(value, MOST_RULES, is_rule)


def is_rule(value):
    """Whether it is a rule: (person, sheet, column, word)."""
    if not is_tuple_of(value, 4):
        return False
    person, sheet, column, word = value
    return is_name(person) and is_name(sheet) and (column is None or is_mark(column)) and word in RIGHT_WORDS


def right_of(book, person, sheet, column):
    """The right of the person on a column of a sheet of the book."""
    checked_person(person)
    found = checked_named(book.sheets, sheet)
    if not is_mark(column) or column not in found[2]:
        raise InvalidMark(column)
    return right_on(book, person, sheet, column)


def right_on(book, person, sheet, column):
    """The right of the person on what is known to be a column of the book.

    With None in its place only the rules for all columns of the sheet speak.
    """
    if person == book.owner:
        return "write"
    words = [rule[3] for rule in book.rights if speaks_of(rule, person, sheet, column)]
    return words[-1] if words else "none"


def speaks_of(rule, person, sheet, column):
    """Whether a rule is one for this person, this sheet and this column."""
    return rule[0] in (person, EVERYBODY) and rule[1] == sheet and (rule[2] is None or rule[2] == column)
