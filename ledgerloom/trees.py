"""The trees of formulas: which there are, how they are printed in a book, and how a print is read."""

from ledgerloom.amounts import SIGNS, is_error, is_value, written
from ledgerloom.basics import is_mark, is_name, plain
from ledgerloom.errors import InvalidText, InvalidTree
from ledgerloom.places import print_of_places
from ledgerloom.reading import BINDS, DEEPEST, MINUS_BINDS, Reader

FORMULA_WORDS = ("value", "cell", "minus", "op", "if", "call")
CONDITION_WORDS = ("value", "cell", "minus", "op", "if", "call", "here")
CALL_WORDS = ("sum", "count", "least", "most")
MOST_TREES = 40
MOST_MEMBERS = 6


def is_tree(value):
    """Whether it is a tree without "here"."""
    return is_tree_within(value, FORMULA_WORDS)


def is_condition(value):
    """Whether it is a condition of a view: a tree, perhaps with "here"."""
    return is_tree_within(value, CONDITION_WORDS)


def is_tree_within(value, words):
    """Whether it is a tree of trees that begin with these words alone."""
    found = 0
    waiting = [(value, 1, False)]
    while waiting:
        thing, deep, in_call = waiting.pop()
        found += 1
        # The bounds stand ahead, so that nothing big is ever gone through.
        if found > MOST_TREES or deep > DEEPEST or not has_form(thing):
            return False
        if thing[0] not in words and not (in_call and thing[0] == "area"):
            return False
        waiting.extend([(part, deep + 1, thing[0] == "call") for part in parts_of(thing)])
    return True


def has_form(thing):
    """Whether it has the form of a tree or of an area, whatever its parts are."""
    if not isinstance(thing, tuple) or len(thing) == 0:
        return False
    word = thing[0]
    many = len(thing)
    if word == "value":
        return many == 2 and is_constant(thing[1])
    if word == "cell":
        return many == 4 and names_places(thing)
    if word == "area":
        return many == 6 and names_places(thing)
    if word == "here":
        return many == 2 and is_mark(thing[1])
    if word == "minus":
        return many == 2
    if word == "op":
        return many == 4 and thing[1] in SIGNS
    if word == "if":
        return many == 4
    return word == "call" and many == 3 and is_call_of(thing[1], thing[2])


def is_constant(value):
    """Whether it is a value that a tree may hold: a number, a text or a truth."""
    return is_value(value) and value is not None and not is_error(value)


def names_places(thing):
    """Whether a name and marks, as of a cell or an area, stand behind the word."""
    return is_name(thing[1]) and all([is_mark(mark) for mark in thing[2:]])


def is_call_of(word, members):
    """Whether it is a word of calls, with as many members as a call may have."""
    return word in CALL_WORDS and isinstance(members, tuple) and 1 <= len(members) <= MOST_MEMBERS


def parts_of(tree):
    """The trees and areas that stand right below a tree, in order."""
    if tree[0] in ("minus", "if"):
        return tree[1:]
    if tree[0] == "op":
        return tree[2:]
    return tree[2] if tree[0] == "call" else ()


def printed(book, tree):
    """The print of the tree in this book."""
    if not is_tree(tree):
        raise InvalidTree(tree)
    return print_of(book.sheets, tree)


def print_of(sheets, tree):
    """The print of a tree or an area."""
    word = tree[0]
    if word == "value":
        return print_of_value(tree[1])
    if word in ("cell", "area"):
        return print_of_places(sheets, tree)
    if word == "minus":
        return "-" + print_below(sheets, tree[1], MINUS_BINDS)
    if word == "op":
        return print_of_op(sheets, tree)
    members = ", ".join([print_of(sheets, part) for part in parts_of(tree)])
    return f"if({members})" if word == "if" else f"{tree[1]}({members})"


def print_of_value(value):
    """The print of a value: with brackets if it could be taken for a minus or a quotient."""
    text = written(value)
    in_brackets = value[0] == "number" and (value[1] < 0 or value[2] != 1)
    return f"({text})" if in_brackets else text


def print_of_op(sheets, tree):
    """The print of an op."""
    _, sign, one, other = tree
    left = print_below(sheets, one, BINDS[sign])
    right = print_below(sheets, other, BINDS[sign] + 1)
    return f"{left} {sign} {right}"


def print_below(sheets, tree, least):
    """The print of a tree, between brackets if it is an op of a sign that does not bind so much."""
    text = print_of(sheets, tree)
    return f"({text})" if tree[0] == "op" and BINDS[tree[1]] < least else text


def read_tree(book, text):
    """The tree that is printed so in this book."""
    if not isinstance(text, str):
        raise InvalidText(text)
    tree = Reader(book.sheets, text).read_ops(1, 0)
    # Only the way back tells that nothing but the one way of printing is let.
    if not is_tree(tree) or print_of(book.sheets, tree) != text:
        raise InvalidText(text)
    return plain(tree)
