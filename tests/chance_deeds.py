"""Deeds and steps as chance makes them."""

from tests import chance as chances

PERSONS = ["ann", "bob", "eve"]
WORDS = ["none", "read", "write", "write"]


def some_stamp(chance, most=40):
    """Some stamp, of few enough that one comes twice at times."""
    return (chance.randint(1, most), chance.choice(PERSONS), chance.randint(0, 1))


def some_line(chance, marks):
    """The mark of some line, most times of one that is there."""
    return chance.choice(marks) if marks and chance.random() < 0.9 else chances.some_mark(chance)


def some_place(chance, marks):
    """A place for lines to be put in."""
    return None if chance.random() < 0.3 else some_line(chance, marks)


def some_deed(chance, book):
    """Some deed, most of what it names being in the book."""
    name, rows, columns, _ = chance.choice(book.sheets)
    if chance.random() < 0.05:
        name = chance.choice(chances.NAMES)
    row, column = some_line(chance, rows), some_line(chance, columns)
    content = chances.some_content(chance, book.sheets, 0.5)
    views = [view[0] for view in book.views] + ["few", "many", "none"]
    kind = chance.choice(["lines", "lines", "set", "set", "set", "clear", "put", "put", "view", "rights", "sheets"])
    if kind == "lines":
        return some_deed_of_lines(chance, name, rows, columns)
    if kind == "set":
        return ("set", name, row, column, content)
    if kind == "clear":
        return ("clear", name, row, column)
    if kind == "put":
        return some_put(chance, book, content)
    if kind == "view":
        return some_deed_of_views(chance, book, views)
    if kind == "rights":
        if chance.random() < 0.3:
            return ("unrule", chance.choice([0, 1, 2, 5, 99]))
        who = chance.choice(["all", "bob", "eve"])
        return ("rule", (who, name, chance.choice([None, None, column]), chance.choice(WORDS)))
    return (chance.choice(["sheet", "unsheet"]), chance.choice(chances.NAMES))


def some_put(chance, book, content):
    """Some deed that is made through a view."""
    views = list(book.views) or [("few", chance.choice(chances.NAMES), None, ())]
    view = chance.choice(views)
    columns = [column for sheet in book.sheets if sheet[0] == view[1] for column in sheet[2]]
    name = view[0] if chance.random() < 0.9 else "none"
    return ("put", name, chance.choice([0, 0, 0, 1, 1, 2, 5]), some_line(chance, columns), content)


def some_deed_of_lines(chance, name, rows, columns):
    """Some deed that puts rows or columns in, takes one out, or moves one."""
    one, marks = chance.choice([("row", rows), ("column", columns)])
    kind = chance.choice(["in", "in", "out", "move"])
    if kind == "in":
        return (one + "s", name, some_place(chance, marks), chance.choice([1, 1, 2, 5]))
    if kind == "out":
        return ("un" + one, name, some_line(chance, marks))
    return ("move" + one, name, some_line(chance, marks), some_place(chance, marks))


def some_deed_of_views(chance, book, views):
    """Some deed that puts a view or a summary in, or takes one out."""
    kind = chance.choice(["view", "view", "unview", "summary", "unsummary"])
    if kind == "view":
        return (kind, chances.some_view(chance, book.sheets, chance.choice(views)))
    if kind == "unview":
        return (kind, chance.choice(views))
    if kind == "unsummary":
        return (kind, chance.choice(["all", "most"]))
    shown = list(book.views) or [chances.some_view(chance, book.sheets, "few")]
    return (kind, chances.some_summary(chance, book.sheets, shown, chance.choice(["all", "most"])))


def some_steps(chance, book, many):
    """So many steps at most, in their order, no two with one stamp: deeds, and undos and redos of any of them."""
    stamps = sorted({some_stamp(chance) for _ in range(many)})
    steps = []
    for stamp in stamps:
        if chance.random() < 0.3:
            deed = (chance.choice(["undo", "undo", "redo"]), chance.choice(stamps))
        else:
            deed = some_deed(chance, book)
        steps.append((stamp, deed))
    return tuple(steps)
