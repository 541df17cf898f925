"""Who may do which deed."""

from ledgerloom.basics import named
from ledgerloom.books import right_on

CELL_WORDS = ("set", "clear")
LINE_WORDS = ("rows", "unrow", "moverow", "columns", "uncolumn", "movecolumn")


def may_do(draft, person, deed):
    """Whether the person may do the deed; for a "put" the "set" is asked that it makes."""
    word = deed[0]
    if person == draft.owner:
        return True
    if word in CELL_WORDS:
        return right_on(draft, person, deed[1], deed[3]) == "write"
    if word in LINE_WORDS:
        return is_full(draft, person, deed[1])
    if word == "view":
        return is_full(draft, person, deed[1][1]) and may_take_view(draft, person, deed[1][0])
    # The rest is the owner's alone.
    return word == "unview" and may_take_view(draft, person, deed[1])


def may_take_view(draft, person, name):
    """Whether the person, who is not the owner, may take the view of this name out, if there is one."""
    view = named(draft.views, name)
    return view is None or is_full(draft, person, view[1])


def is_full(draft, person, name):
    """Whether the person, who is not the owner, may write everywhere on the sheet of this name."""
    sheet = named(draft.sheets, name)
    if sheet is None:
        return False
    # Where there is no column, the rules for all columns tell.
    columns = sheet[2] if len(sheet[2]) > 0 else (None,)
    return all([right_on(draft, person, name, column) == "write" for column in columns])
