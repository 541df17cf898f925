"""Books and changes of books as chance makes them, for tests that go through many."""

from ledgerloom.books import Book
from tests import model

SIGNS = ["+", "-", "*", "/", "&", "=", "<"]
NAMES = ["all", "bills", "if", "notes", "z"]
WORDS = ["sum", "count", "least", "most"]
CONSTANTS = [
    ("number", 0, 1), ("number", 1, 1), ("number", -3, 1), ("number", 1, 3), ("number", 999999999999999, 1),
    ("number", 1, 999999999999999), ("text", ""), ("text", "ab"), ("text", "x" * 25), ("truth", 0), ("truth", 1),
]
ERRORS = [("error", word) for word in ("kind", "zero", "size", "ring", "gone")]


def some_mark(chance):
    """Some mark, of few enough that one that was taken out comes back at times."""
    return (chance.randint(1, 5), chance.choice(["", "ann", "bob"]), chance.randint(0, 1), chance.randint(0, 2))


def some_marks(chance, most):
    """Some marks, none twice, in any order."""
    return tuple(dict.fromkeys(some_mark(chance) for _ in range(chance.randint(0, most))))


def some_named(chance, sheets):
    """A name and two pairs of marks: most times of a sheet that is there."""
    name, rows, columns, _ = chance.choice(sheets)
    if not rows or not columns or chance.random() < 0.08:
        return chance.choice(NAMES), *[some_mark(chance) for _ in range(4)]
    return name, chance.choice(rows), chance.choice(columns), chance.choice(rows), chance.choice(columns)


def some_tree(chance, sheets, deep):
    """Some tree, at most so deep."""
    if deep == 1 or chance.random() < 0.3:
        if chance.random() < 0.75:
            return ("cell", *some_named(chance, sheets)[:3])
        return ("value", chance.choice(CONSTANTS))
    kind = chance.choice(["minus", "op", "op", "op", "if", "call", "call"])
    if kind == "minus":
        return ("minus", some_tree(chance, sheets, deep - 1))
    if kind == "op":
        return ("op", chance.choice(SIGNS), *[some_tree(chance, sheets, deep - 1) for _ in range(2)])
    if kind == "if":
        test = ("op", chance.choice("=<"), *[some_tree(chance, sheets, 1) for _ in range(2)])
        return ("if", test, *[some_tree(chance, sheets, deep - 1) for _ in range(2)])
    members = [
        ("area", *some_named(chance, sheets)) if chance.random() < 0.5 else some_tree(chance, sheets, deep - 1)
        for _ in range(chance.randint(1, 2))
    ]
    return ("call", chance.choice(WORDS), tuple(members))


def some_content(chance, sheets, formulas):
    """Some content; the more formulas are wanted (0 to 1), the more rings."""
    if chance.random() < formulas:
        return ("=", some_tree(chance, sheets, chance.randint(1, 3)))
    return chance.choice(ERRORS) if chance.random() < 0.08 else chance.choice(CONSTANTS)


def some_book(chance):
    """Some small book with contents of all kinds."""
    names = sorted(chance.sample(NAMES, chance.randint(1, 3)))
    bare = tuple((name, some_marks(chance, 5), some_marks(chance, 4), ()) for name in names)
    formulas = chance.choice([0.2, 0.5, 0.9])
    filled = chance.choice([0.4, 0.8])
    contents = {
        cell: some_content(chance, bare, formulas) for cell in cells_of(bare) if chance.random() < filled
    }
    return with_contents(bare, contents)


def cells_of(sheets):
    """The cells of sheets."""
    return [(name, row, column) for name, rows, columns, _ in sheets for row in rows for column in columns]


def with_contents(sheets, contents):
    """The book of these sheets with just these contents, as far as their cells are there."""
    filled = []
    for name, rows, columns, _ in sheets:
        cells = [
            (row, column, contents[name, row, column])
            for row in sorted(rows) for column in sorted(columns) if (name, row, column) in contents
        ]
        filled.append((name, rows, columns, tuple(cells)))
    return Book("ann", tuple(filled), (), (), ())


def contents_of(book):
    """The contents of the book, by cell."""
    return {
        cell: model.content_of(book, cell) for cell in model.all_cells(book) if model.content_of(book, cell) is not None
    }


def some_change(chance, book):
    """The book behind some change: of contents, rows, columns or sheets."""
    contents = contents_of(book)
    sheets = list(book.sheets)
    cells = cells_of(sheets)
    kind = chance.choice(["set", "set", "set", "clear", "lines", "lines", "lines", "sheet"])
    if kind == "set" and cells:
        contents[chance.choice(cells)] = some_content(chance, book.sheets, 0.5)
    if kind == "clear" and contents:
        del contents[chance.choice(sorted(contents))]
    if kind == "lines":
        at = chance.randrange(len(sheets))
        name, rows, columns, _ = sheets[at]
        if chance.random() < 0.5:
            sheets[at] = (name, changed_marks(chance, rows, 5), columns, ())
        else:
            sheets[at] = (name, rows, changed_marks(chance, columns, 4), ())
    if kind == "sheet":
        sheets = changed_sheets(chance, sheets)
    return with_contents(tuple(sheets), contents)


def changed_marks(chance, marks, most):
    """Marks of which one is put in, taken out, or moved."""
    marks = list(marks)
    kind = chance.choice(["in", "out", "move", "move"])
    if kind == "in" and len(marks) < most:
        mark = some_mark(chance)
        if mark not in marks:
            marks.insert(chance.randint(0, len(marks)), mark)
    elif marks:
        mark = marks.pop(chance.randrange(len(marks)))
        if kind == "move":
            marks.insert(chance.randint(0, len(marks)), mark)
    return tuple(marks)


def changed_sheets(chance, sheets):
    """Sheets of which one is taken out or put in."""
    if len(sheets) > 1 and chance.random() < 0.5:
        sheets.pop(chance.randrange(len(sheets)))
        return sheets
    fresh = [name for name in NAMES if name not in [sheet[0] for sheet in sheets]]
    if len(sheets) < 4 and fresh:
        sheets.append((chance.choice(fresh), some_marks(chance, 5), some_marks(chance, 4), ()))
    return sorted(sheets)
