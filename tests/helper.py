"""What several tests need: books in few words, odd things of all kinds, tuples of a class of their own."""

from ledgerloom import errors
from ledgerloom.books import Book
from ledgerloom.reckoning import Reckoner


class Desk:
    """Stands in for a book with more columns than one may have; of a book, prints need nothing but its sheets."""

    def __init__(self, sheets):
        self.sheets = sheets


class OwnTuple(tuple):
    """A tuple of a class of its own, which may be passed, but must not be returned."""


class OwnText(str):
    """A string of a class of its own."""


class OwnInteger(int):
    """An integer of a class of its own."""


def own(value):
    """The same thing of tuples, strings and integers that have classes of their own."""
    if isinstance(value, tuple):
        return OwnTuple(own(member) for member in value)
    if isinstance(value, str):
        return OwnText(value)
    return OwnInteger(value) if type(value) is int else value


def is_plain(value):
    """Whether it is made of plain tuples, strings, integers, bools and None alone."""
    if type(value) is tuple:
        return all(is_plain(member) for member in value)
    return value is None or type(value) in (int, str, bool)


def nested(deep):
    """A tuple in a tuple in a tuple, and so on."""
    value = ()
    for _ in range(deep - 1):
        value = (value,)
    return value


def marks(clock, many):
    """So many marks of this clock."""
    return tuple((clock, "", 0, k) for k in range(many))


ROWS = marks(1, 30)
COLUMNS = marks(2, 30)


def book(*sheets, owner="ann", views=(), summaries=(), rights=()):
    """The book of these sheets, that of ann if nothing else is told."""
    return Book(owner, sheets, views, summaries, rights)


def sheet(name, rows, columns, contents):
    """The sheet of so many rows and columns, with these contents by the places of their rows and columns."""
    cells = [(ROWS[row], COLUMNS[column], content) for (row, column), content in contents.items()]
    return (name, ROWS[:rows], COLUMNS[:columns], tuple(sorted(cells, key=lambda cell: cell[:2])))


def at(name, row, column):
    """The cell of a sheet in the row and column of these places, counted from 0, as books name it."""
    return (name, ROWS[row], COLUMNS[column])


def paths(thing):
    """The ways to all things that are within a thing, itself among them, as tuples of places."""
    yield ()
    if isinstance(thing, tuple):
        for place, member in enumerate(thing):
            yield from ((place,) + path for path in paths(member))


def found_at(thing, path):
    """What stands at the end of this way."""
    for place in path:
        thing = thing[place]
    return thing


def put_at(thing, path, new):
    """The thing with a new one at the end of this way."""
    if path == ():
        return new
    place = path[0]
    return thing[:place] + (put_at(thing[place], path[1:], new),) + thing[place + 1:]


SMALL_BOOK = book(("bills", (), (), ()))

# Neither values, trees, signs nor texts that anything is written or printed as.
ODD_THINGS = [
    0, 1, -1, 42, True, False, 999999999999, 10 ** 30,
    "ann", "value", "a" * 4000, "\x00", "\x7f", "\u00e9", "\ud800", "\n",
    (), [], (None,), [None], ((),), nested(60), [[[]]], ("number",), ("value",), ["number", 1, 1],
    tuple(range(3000)), list(range(3000)), (None,) * 30, ("number",) * 3, ("value",) * 2, ("call",) * 3,
    errors.InvalidValue(3), errors.InvalidTree(()), errors.Undefined("veiled"), (errors.InvalidText(""),) * 2,
    (errors.InvalidText(""),) * 3, SMALL_BOOK, Reckoner(SMALL_BOOK), (SMALL_BOOK,), [SMALL_BOOK],
]

# What stands nowhere in the sheets, views, summaries and rights of a book that hold no texts and numbers.
WRONG_EVERYWHERE = [
    True, False, -1, 10 ** 30, 1000000, "A", "abcdefghi", "\x00", "\u00e9", "a b", [], [None], ["a"], (None,), ((),),
    ("a",),
    [0, "", 0, 0], (True, "", 0, 0), nested(60), tuple(range(3000)), errors.InvalidSheets(()), SMALL_BOOK,
    Reckoner(SMALL_BOOK),
]

# Values of all kinds, in their order.
VALUES_IN_ORDER = [
    None,
    ("number", -999999999999999, 1),
    ("number", -3, 1),
    ("number", -5, 2),
    ("number", -1, 3),
    ("number", -1, 999999999999999),
    ("number", 0, 1),
    ("number", 1, 999999999999999),
    ("number", 1, 3),
    ("number", 333333333333333, 999999999999998),
    ("number", 1, 2),
    ("number", 999999999999998, 999999999999999),
    ("number", 1, 1),
    ("number", 10, 9),
    ("number", 2, 1),
    ("number", 7, 3),
    ("number", 10, 1),
    ("number", 999999999999999, 1),
    ("text", ""),
    ("text", " "),
    ("text", "!"),
    ("text", "#ring"),
    ("text", "-1"),
    ("text", "1"),
    ("text", "10"),
    ("text", "2"),
    ("text", "A"),
    ("text", "Zebra"),
    ("text", "a"),
    ("text", "aa"),
    ("text", "b"),
    ("text", "yes"),
    ("text", "~" * 39),
    ("text", "~" * 40),
    ("truth", 0),
    ("truth", 1),
    ("error", "gone"),
    ("error", "kind"),
    ("error", "ring"),
    ("error", "size"),
    ("error", "zero"),
]


def number(p, q=1):
    """The tree of a number."""
    return ("value", ("number", p, q))


def text(string):
    """The tree of a text."""
    return ("value", ("text", string))


def truth(b):
    """The tree of a truth."""
    return ("value", ("truth", b))


def cell(sheet, row, column):
    """The cell in the row and column of these places, counted from 0."""
    return ("cell", sheet, ROWS[row], COLUMNS[column])


def area(sheet, row, column, row2, column2):
    """The area between the rows and columns of these places, counted from 0."""
    return ("area", sheet, ROWS[row], COLUMNS[column], ROWS[row2], COLUMNS[column2])


def call(word, *members):
    """The tree of a call."""
    return ("call", word, members)


def chain(deep):
    """A tree of minus signs alone that is so deep."""
    tree = number(1)
    for _ in range(deep - 1):
        tree = ("minus", tree)
    return tree


def count_of(tree):
    """How many trees and areas are in a tree."""
    word = tree[0]
    parts = {"minus": tree[1:], "if": tree[1:], "op": tree[2:], "call": tree[-1]}.get(word, ())
    return 1 + sum(count_of(part) for part in parts)


def depth_of(tree):
    """How deep a tree is."""
    word = tree[0]
    parts = {"minus": tree[1:], "if": tree[1:], "op": tree[2:], "call": tree[-1]}.get(word, ())
    return 1 + max((depth_of(part) for part in parts), default=0)


def bush(many):
    """A flat tree of just so many trees."""
    trees = [number(1)] * ((many + 1) // 2)
    while len(trees) > 1:
        pairs = [("op", "+", one, other) for one, other in zip(trees[::2], trees[1::2])]
        trees = pairs + trees[len(pairs) * 2:]
    # So many leaves and one op fewer are an odd number of trees.
    return trees[0] if many % 2 else ("minus", trees[0])
