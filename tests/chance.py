"""Books and changes of books as chance makes them, for tests that go through many."""

from ledgerloom.books import Book
from tests import model

SIGNS = ["+", "-", "*", "/", "&", "=", "<"]
NAMES = ["all", "bills", "if", "notes", "z"]
WORDS = ["sum", "count", "least", "most"]
CONSTANTS = [
    ("number", 0, 1), ("number", 1, 1), ("number", -3, 1), ("number", 1, 3), ("number", 999999999999999, 1),
    ("number", 1, 999999999999999), ("text", ""), ("text", "ab"), ("text", "x" * 25), ("truth", 0), ("truth", 1),
]
ERRORS = [("error", word) for word in ("kind", "zero", "size", "ring", "gone")]


def some_mark(chance):
    """Some mark, of few enough that one that was taken out comes back at times."""
    return (chance.randint(1, 5), chance.choice(["", "ann", "bob"]), chance.randint(0, 1), chance.randint(0, 2))


def some_marks(chance, most):
    """Some marks, none twice, in any order."""
    return tuple(dict.fromkeys(some_mark(chance) for _ in range(chance.randint(0, most))))


def some_named(chance, sheets):
    """A name and two pairs of marks: most times of a sheet that is there."""
    name, rows, columns, _ = chance.choice(sheets)
    if not rows or not columns or chance.random() < 0.08:
        return chance.choice(NAMES), *[some_mark(chance) for _ in range(4)]
    return name, chance.choice(rows), chance.choice(columns), chance.choice(rows), chance.choice(columns)


def some_tree(chance, sheets, deep):
    """Some tree, at most so deep."""
    if deep == 1 or chance.random() < 0.3:
        if chance.random() < 0.75:
            return ("cell", *some_named(chance, sheets)[:3])
        return ("value", chance.choice(CONSTANTS))
    kind = chance.choice(["minus", "op", "op", "op", "if", "call", "call"])
    if kind == "minus":
        return ("minus", some_tree(chance, sheets, deep - 1))
    if kind == "op":
        return ("op", chance.choice(SIGNS), *[some_tree(chance, sheets, deep - 1) for _ in range(2)])
    if kind == "if":
        test = ("op", chance.choice("=<"), *[some_tree(chance, sheets, 1) for _ in range(2)])
        return ("if", test, *[some_tree(chance, sheets, deep - 1) for _ in range(2)])
    members = [
        ("area", *some_named(chance, sheets)) if chance.random() < 0.5 else some_tree(chance, sheets, deep - 1)
        for _ in range(chance.randint(1, 2))
    ]
    return ("call", chance.choice(WORDS), tuple(members))


def some_content(chance, sheets, formulas):
    """Some content; the more formulas are wanted (0 to 1), the more rings."""
    if chance.random() < formulas:
        return ("=", some_tree(chance, sheets, chance.randint(1, 3)))
    return chance.choice(ERRORS) if chance.random() < 0.08 else chance.choice(CONSTANTS)


def some_book(chance):
    """Some small book with contents of all kinds."""
    names = sorted(chance.sample(NAMES, chance.randint(1, 3)))
    bare = tuple((name, some_marks(chance, 5), some_marks(chance, 4), ()) for name in names)
    formulas = chance.choice([0.2, 0.5, 0.9])
    filled = chance.choice([0.4, 0.8])
    contents = {
        cell: some_content(chance, bare, formulas) for cell in cells_of(bare) if chance.random() < filled
    }
    return with_contents(bare, contents)


def cells_of(sheets):
    """The cells of sheets."""
    return [(name, row, column) for name, rows, columns, _ in sheets for row in rows for column in columns]


def with_contents(sheets, contents):
    """The book of these sheets with just these contents, as far as their cells are there."""
    filled = []
    for name, rows, columns, _ in sheets:
        cells = [
            (row, column, contents[name, row, column])
            for row in sorted(rows) for column in sorted(columns) if (name, row, column) in contents
        ]
        filled.append((name, rows, columns, tuple(cells)))
    return Book("ann", tuple(filled), (), (), ())


def contents_of(book):
    """The contents of the book, by cell."""
    return {
        cell: model.content_of(book, cell) for cell in model.all_cells(book) if model.content_of(book, cell) is not None
    }


def some_change(chance, book):
    """The book behind some change: of contents, rows, columns or sheets."""
    contents = contents_of(book)
    sheets = list(book.sheets)
    cells = cells_of(sheets)
    kind = chance.choice(["set", "set", "set", "clear", "lines", "lines", "lines", "sheet"])
    if kind == "set" and cells:
        contents[chance.choice(cells)] = some_content(chance, book.sheets, 0.5)
    if kind == "clear" and contents:
        del contents[chance.choice(sorted(contents))]
    if kind == "lines":
        at = chance.randrange(len(sheets))
        name, rows, columns, _ = sheets[at]
        if chance.random() < 0.5:
            sheets[at] = (name, changed_marks(chance, rows, 5), columns, ())
        else:
            sheets[at] = (name, rows, changed_marks(chance, columns, 4), ())
    if kind == "sheet":
        sheets = changed_sheets(chance, sheets)
    return with_contents(tuple(sheets), contents)


def changed_marks(chance, marks, most):
    """Marks of which one is put in, taken out, or moved."""
    marks = list(marks)
    kind = chance.choice(["in", "out", "move", "move"])
    if kind == "in" and len(marks) < most:
        mark = some_mark(chance)
        if mark not in marks:
            marks.insert(chance.randint(0, len(marks)), mark)
    elif marks:
        mark = marks.pop(chance.randrange(len(marks)))
        if kind == "move":
            marks.insert(chance.randint(0, len(marks)), mark)
    return tuple(marks)


def changed_sheets(chance, sheets):
    """Sheets of which one is taken out or put in."""
    if len(sheets) > 1 and chance.random() < 0.5:
        sheets.pop(chance.randrange(len(sheets)))
        return sheets
    fresh = [name for name in NAMES if name not in [sheet[0] for sheet in sheets]]
    if len(sheets) < 4 and fresh:
        sheets.append((chance.choice(fresh), some_marks(chance, 5), some_marks(chance, 4), ()))
    return sorted(sheets)


def some_rights(chance, sheets, persons):
    """Some rules, most of them about columns that are there."""
    rules = [("all", sheet[0], None, chance.choice(["read", "write"])) for sheet in sheets if chance.random() < 0.7]
    for _ in range(chance.randint(0, 5)):
        name, _, columns, _ = chance.choice(sheets)
        column = chance.choice([None, None, *columns, some_mark(chance)])
        rules.append((chance.choice(["all", *persons]), name, column, chance.choice(["none", "read", "read", "write"])))
    return tuple(rules)


def some_condition(chance, sheets, name):
    """Some condition of a view of a sheet: in most trees many cells give way to those of the row."""
    columns = [column for sheet in sheets if sheet[0] == name for column in sheet[2]]
    kind = chance.choice(["yes", "yes", "less", "less", "any"])
    if kind == "yes":
        return ("value", ("truth", 1))
    if kind == "less":
        tree = ("op", chance.choice("<="), *[some_tree(chance, sheets, 1) for _ in range(2)])
    else:
        tree = some_tree(chance, sheets, 3)
    return with_here(chance, tree, columns)


def with_here(chance, tree, columns):
    """The tree with "here" in place of some of its cells and values."""
    if tree[0] in ("cell", "value"):
        column = chance.choice([*columns, some_mark(chance)])
        return ("here", column) if chance.random() < 0.7 else tree
    if tree[0] == "call":
        return ("call", tree[1], tuple(with_here(chance, part, columns) for part in tree[2]))
    if tree[0] == "area":
        return tree
    at = 2 if tree[0] == "op" else 1
    return (*tree[:at], *[with_here(chance, part, columns) for part in tree[at:]])


def some_view(chance, sheets, name):
    """Some view of this name."""
    sheet_name, _, columns, _ = chance.choice(sheets)
    marks = [*columns, some_mark(chance)]
    order = [(column, chance.choice(["up", "down"])) for column in dict.fromkeys(chance.choices(marks, k=3))]
    condition = some_condition(chance, sheets, sheet_name)
    if chance.random() < 0.1:
        sheet_name = chance.choice(NAMES)
    return (name, sheet_name, condition, tuple(order[:chance.randint(0, 3)]))


def some_summary(chance, sheets, views, name):
    """Some summary of this name."""
    view = chance.choice(views)
    columns = [column for sheet in sheets if sheet[0] == view[1] for column in sheet[2]]
    marks = [chance.choice([*columns, *columns, some_mark(chance)]) for _ in range(2)]
    return (name, chance.choice([view[0], view[0], view[0], "none"]), *marks)


def some_shared_book(chance, persons=("bob", "eve")):
    """Some small book with views, summaries and rights."""
    sheets = some_book(chance).sheets
    views = tuple(some_view(chance, sheets, name) for name in ("few", "many", "none")[:chance.randint(1, 3)])
    summaries = tuple(some_summary(chance, sheets, views, name) for name in ("all", "most"))
    return Book("ann", sheets, views, summaries, some_rights(chance, sheets, persons))


def alike_book(chance, book, is_open):
    """A book that differs from this one in nothing but contents of cells that are not open."""
    contents = contents_of(book)
    for cell in cells_of(book.sheets):
        if not is_open(cell):
            contents.pop(cell, None)
            if chance.random() < 0.7:
                contents[cell] = some_content(chance, book.sheets, 0.5)
    sheets = with_contents(book.sheets, contents).sheets
    return Book(book.owner, sheets, book.views, book.summaries, book.rights)
