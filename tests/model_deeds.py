"""Deeds, steps and what comes of them, told once more: what the package makes is compared with this."""

from ledgerloom.books import Book
from ledgerloom.errors import BookError
from tests import model_shown


class Void(Exception):
    """A deed cannot be done."""


def must(told):
    """Raises Void if something does not hold."""
    if not told:
        raise Void


def right_on(book, person, name, column):
    """The right of a person on a column, or by the rules for all columns alone, if the column is None."""
    words = ["none"]
    for who, sheet, of, word in book.rights:
        if who in (person, "all") and sheet == name and (of is None or of == column):
            words.append(word)
    return "write" if person == book.owner else words[-1]


def is_full(book, person, name):
    """Whether the person may write everywhere on a sheet; on one that is not there only the owner may."""
    if person == book.owner:
        return True
    for sheet_name, _, columns, _ in book.sheets:
        if sheet_name == name:
            return all(right_on(book, person, name, column) == "write" for column in columns or [None])
    return False


def done(book, stamp, deed):
    """The book that the deed makes, None if it cannot be done."""
    try:
        return book_behind(book, stamp, deed)
    except (Void, BookError):
        return None


def book_behind(book, stamp, deed):
    """The like, raising Void or some error of the package."""
    sheets = {name: [list(rows), list(columns), {cell[:2]: cell[2] for cell in cells}]
              for name, rows, columns, cells in book.sheets}
    views = {view[0]: view for view in book.views}
    summaries = {summary[0]: summary for summary in book.summaries}
    rights = list(book.rights)
    word, person = deed[0], stamp[1]
    if word in ("sheet", "unsheet", "summary", "unsummary", "rule", "unrule"):
        must(person == book.owner)
    if word == "sheet":
        must(deed[1] not in sheets)
        sheets[deed[1]] = [[], [], {}]
    elif word == "unsheet":
        must(deed[1] in sheets)
        del sheets[deed[1]]
    elif word in ("set", "clear", "put"):
        content_behind(book, sheets, views, person, deed)
    elif word == "view":
        must(is_full(book, person, deed[1][1]))
        must(deed[1][0] not in views or is_full(book, person, views[deed[1][0]][1]))
        views[deed[1][0]] = deed[1]
    elif word == "unview":
        must(deed[1] in views and is_full(book, person, views[deed[1]][1]))
        del views[deed[1]]
    elif word == "summary":
        summaries[deed[1][0]] = deed[1]
    elif word == "unsummary":
        must(deed[1] in summaries)
        del summaries[deed[1]]
    elif word == "rule":
        rights.append(deed[1])
    elif word == "unrule":
        must(deed[1] < len(rights))
        del rights[deed[1]]
    else:
        must(is_full(book, person, deed[1]) and deed[1] in sheets)
        lines_behind(sheets[deed[1]], stamp, deed)
    told = tuple(
        (name, tuple(rows), tuple(columns), tuple((*place, cells[place]) for place in sorted(cells)))
        for name, (rows, columns, cells) in sorted(sheets.items())
    )
    return Book(
        book.owner, told, tuple(views[name] for name in sorted(views)),
        tuple(summaries[name] for name in sorted(summaries)), tuple(rights),
    )


def view_row(book, person, deed):
    """The row in which a "put" puts its content; the view has one there."""
    return model_shown.view_rows(book, person, deed[1])[deed[2]]


def content_behind(book, sheets, views, person, deed):
    """Changes the sheets by a "set", a "clear" or a "put"."""
    if deed[0] == "put":
        _, view, number, column, content = deed
        must(view in views)
        must(number < len(model_shown.view_rows(book, person, view)))
        deed = ("set", views[view][1], view_row(book, person, deed), column, content)
    _, name, row, column, *content = deed
    must(name in sheets and right_on(book, person, name, column) == "write")
    rows, columns, cells = sheets[name]
    must(row in rows and column in columns)
    if content:
        cells[row, column] = content[0]
    else:
        must((row, column) in cells)
        del cells[row, column]


def lines_behind(sheet, stamp, deed):
    """Changes a sheet by a deed of rows or columns."""
    word, _, *rest = deed
    side = 0 if "row" in word else 1
    lines = sheet[side]
    if word in ("rows", "columns"):
        place, many = rest
        fresh = [stamp + (k,) for k in range(many)]
        must(not set(fresh) & set(lines))
    else:
        line, place = [*rest, None][:2]
        must(line in lines and line != place)
        lines.remove(line)
        fresh = [] if word.startswith("un") else [line]
    must(place is None or place in lines)
    at = 0 if place is None else lines.index(place) + 1
    lines[at:at] = fresh
    sheet[2] = {cell: content for cell, content in sheet[2].items() if cell[side] in lines}


def aim_of(steps, step):
    """The stamp of the step at which an undo or a redo aims, None if there is none."""
    stamp, (word, *rest) = step
    if word not in ("undo", "redo"):
        return None
    for other, deed in steps:
        if other == rest[0] and deed[0] not in ("undo", "redo") and other[1] == stamp[1] and other[0] < stamp[0]:
            return other
    return None


def off_of(steps):
    """The stamps of the steps that are off."""
    found = []
    for stamp, _ in sorted(steps, key=lambda step: step[0]):
        words = [step[1][0] for step in sorted(steps, key=lambda step: step[0]) if aim_of(steps, step) == stamp]
        if words[-1:] == ["undo"]:
            found.append(stamp)
    return tuple(found)


def outcome_of(book, steps):
    """The book that comes of these steps, in whatever order they are told, the void stamps, and those that are off."""
    off = off_of(steps)
    void = []
    for stamp, deed in sorted(steps, key=lambda step: step[0]):
        if deed[0] not in ("undo", "redo") and stamp not in off:
            made = done(book, stamp, deed)
            if made is None:
                void.append(stamp)
            else:
                book = made
    return book, tuple(void), off
