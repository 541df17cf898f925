"""What each deed makes of a draft; None where it cannot be done."""

from ledgerloom.basics import named
from ledgerloom.books import right_on
from ledgerloom.clearness import values_clear
from ledgerloom.drafts import is_within_bounds, with_rights, with_sheets, with_summaries, with_views
from ledgerloom.lines import COLUMNS, ROWS, with_fresh_lines, with_line_moved, without_line
from ledgerloom.permits import may_do
from ledgerloom.places import cells_of, is_cell
from ledgerloom.views import rows_of_view


def with_named(things, thing):
    """The sheets, views or summaries with this one, in place of one of its name."""
    return tuple(sorted([*without_named(things, thing[0]), thing]))


def without_named(things, name):
    """The sheets, views or summaries but the one of this name."""
    return tuple([thing for thing in things if thing[0] != name])


def put_sheet_in(draft, _, deed):
    """What "sheet" makes."""
    if named(draft.sheets, deed[1]) is not None:
        return None
    return with_sheets(draft, with_named(draft.sheets, (deed[1], (), (), ())))


def take_sheet_out(draft, _, deed):
    """What "unsheet" makes."""
    if named(draft.sheets, deed[1]) is None:
        return None
    return with_sheets(draft, without_named(draft.sheets, deed[1]))


def put_lines_in(draft, stamp, deed):
    """What "rows" and "columns" make."""
    word, name, place, many = deed
    sheet = named(draft.sheets, name)
    fresh = tuple([(*stamp, number) for number in range(many)])
    return None if sheet is None else with_sheet(draft, with_fresh_lines(sheet, side_of(word), place, fresh))


def take_line_out(draft, _, deed):
    """What "unrow" and "uncolumn" make."""
    word, name, line = deed
    sheet = named(draft.sheets, name)
    return None if sheet is None else with_sheet(draft, without_line(sheet, side_of(word), line))


def move_line(draft, _, deed):
    """What "moverow" and "movecolumn" make."""
    word, name, line, place = deed
    sheet = named(draft.sheets, name)
    return None if sheet is None else with_sheet(draft, with_line_moved(sheet, side_of(word), line, place))


def side_of(word):
    """The side of a sheet of which a deed tells by its word."""
    return ROWS if word in ("rows", "unrow", "moverow") else COLUMNS


def with_sheet(draft, sheet):
    """The draft with this sheet in place of the one of its name, None if there is none."""
    return None if sheet is None else with_sheets(draft, with_named(draft.sheets, sheet))


def set_content(draft, _, deed):
    """What "set" makes."""
    if not is_cell(draft.sheets, deed[1:4]):
        return None
    name, rows, columns, cells = named(draft.sheets, deed[1])
    kept = cells_but(cells, deed[2:4])
    return with_sheet(draft, (name, rows, columns, tuple(sorted([*kept, deed[2:]]))))


def clear_content(draft, _, deed):
    """What "clear" makes."""
    sheet = named(draft.sheets, deed[1])
    if sheet is None:
        return None
    name, rows, columns, cells = sheet
    kept = cells_but(cells, deed[2:4])
    return None if len(kept) == len(cells) else with_sheet(draft, (name, rows, columns, tuple(kept)))


def cells_but(cells, place):
    """The filled cells of a sheet but the one in this row and column."""
    return [cell for cell in cells if cell[:2] != place]


def put_view_in(draft, _, deed):
    """What "view" makes."""
    return with_views(draft, with_named(draft.views, deed[1]))


def take_view_out(draft, _, deed):
    """What "unview" makes."""
    if named(draft.views, deed[1]) is None:
        return None
    return with_views(draft, without_named(draft.views, deed[1]))


def put_summary_in(draft, _, deed):
    """What "summary" makes."""
    return with_summaries(draft, with_named(draft.summaries, deed[1]))


def take_summary_out(draft, _, deed):
    """What "unsummary" makes."""
    if named(draft.summaries, deed[1]) is None:
        return None
    return with_summaries(draft, without_named(draft.summaries, deed[1]))


def put_rule_in(draft, _, deed):
    """What "rule" makes."""
    return with_rights(draft, (*draft.rights, deed[1]))


def take_rule_out(draft, _, deed):
    """What "unrule" makes."""
    if deed[1] >= len(draft.rights):
        return None
    return with_rights(draft, draft.rights[:deed[1]] + draft.rights[deed[1] + 1:])


WORKS = {
    "sheet": put_sheet_in,
    "unsheet": take_sheet_out,
    "rows": put_lines_in,
    "unrow": take_line_out,
    "moverow": move_line,
    "columns": put_lines_in,
    "uncolumn": take_line_out,
    "movecolumn": move_line,
    "set": set_content,
    "clear": clear_content,
    "view": put_view_in,
    "unview": take_view_out,
    "summary": put_summary_in,
    "unsummary": take_summary_out,
    "rule": put_rule_in,
    "unrule": take_rule_out,
}


def made_by(draft, stamp, deed):
    """The draft that comes of the deed with this stamp, None if it is void."""
    known_deed = set_of_put(draft, stamp[1], deed) if deed[0] == "put" else deed
    if known_deed is None or not may_do(draft, stamp[1], known_deed):
        return None
    work = WORKS[known_deed[0]]
    made = work(draft, stamp, known_deed)
    return made if made is not None and is_within_bounds(made) else None


def set_of_put(draft, person, deed):
    """The "set" that a "put" makes, None if there is none."""
    _, name, number, column, content = deed
    view = named(draft.views, name)
    # Whoever may not write the column is refused ahead, since it takes long to reckon which rows the view shows.
    if view is None or right_on(draft, person, view[1], column) != "write":
        return None
    rows = rows_shown(draft, person, view)
    return ("set", view[1], rows[number], column, content) if number < len(rows) else None


def rows_shown(draft, person, view):
    """The rows that a view of the draft shows to the person."""
    asked = (person, view[0])
    if asked not in draft.rows_known:
        draft.rows_known[asked] = rows_of_view(draft.sheets, view, values_clear(draft, person, cells_of(draft.sheets)))
    return draft.rows_known[asked]


def settled(draft, stamp, deed):
    """The deed as it is kept: in place of a "put" that can be done the "set" that it makes."""
    if deed[0] != "put":
        return deed
    found = set_of_put(draft, stamp[1], deed)
    return deed if found is None or made_by(draft, stamp, found) is None else found
