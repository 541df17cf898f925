"""Values: which there are, what signs make of them, how they are shown, ordered, written and read."""

from math import gcd

from ledgerloom.basics import FIGURES, is_integer, is_tuple_of, plain
from ledgerloom.errors import InvalidText, InvalidValue

SIGNS = ("+", "-", "*", "/", "&", "=", "<")
ERROR_WORDS = ("kind", "zero", "size", "ring", "gone")
TRUTH_WORDS = ("no", "yes")
# In the order in which values of unlike kinds stand; None stands ahead of all.
KINDS = ("number", "text", "truth", "error")
MOST_FIGURES = 15
GREATEST = 999999999999999
LONGEST_TEXT = 40
PERCENT_SIGN = 37
ZERO = ("number", 0, 1)


def is_value(value):
    """Whether it is a value: None, a number, a text, a truth or an error."""
    if value is None:
        return True
    if is_tuple_of(value, 3):
        return value[0] == "number" and is_fraction(value[1], value[2])
    if not is_tuple_of(value, 2):
        return False
    kind, inside = value
    if kind == "text":
        return is_line(inside)
    if kind == "truth":
        return is_integer(inside) and 0 <= inside <= 1
    return kind == "error" and inside in ERROR_WORDS


def is_fraction(p, q):
    """Whether p / q is told in its one way, and is not too long."""
    if not is_integer(p) or not is_integer(q):
        return False
    return -GREATEST <= p <= GREATEST and 1 <= q <= GREATEST and gcd(p, q) == 1


def is_line(text):
    """Whether it may be the string of a text value."""
    if not isinstance(text, str) or len(text) > LONGEST_TEXT:
        return False
    return all([may_stand_in_text(letter) for letter in text])


def may_stand_in_text(letter):
    """Whether this character may stand in a text value."""
    return " " <= letter <= "~" and letter not in '"\\' and ord(letter) != PERCENT_SIGN


def made_of(sign, one, other):
    """What the sign makes of the two values."""
    if sign not in SIGNS:
        raise InvalidText(sign)
    if not is_value(one):
        raise InvalidValue(one)
    if not is_value(other):
        raise InvalidValue(other)
    return result_of(sign, plain(one), plain(other))


def result_of(sign, one, other):
    """What the sign makes of two plain values."""
    if is_error(one):
        return one
    if is_error(other):
        return other
    if sign == "&":
        return joined(one, other)
    if sign == "=":
        return truth_of(one == other)
    if sign == "<" and is_text(one) and is_text(other):
        return truth_of(one[1] < other[1])
    left = number_for(one)
    right = number_for(other)
    if left is None or right is None:
        return ("error", "kind")
    return reckoned(sign, left, right)


def reckoned(sign, left, right):
    """What a sign that takes numbers makes of two of them."""
    p, q = left[1:]
    r, s = right[1:]
    if sign == "+":
        return number_value(p * s + r * q, q * s)
    if sign == "-":
        return number_value(p * s - r * q, q * s)
    if sign == "*":
        return number_value(p * r, q * s)
    if sign == "<":
        return truth_of(p * s < r * q)
    if r == 0:
        return ("error", "zero")
    return number_value(p * s, q * r)


def number_value(p, q):
    """The value of p / q, for a q that is not 0: a number, or the error "size"."""
    common = gcd(p, q)
    if q < 0:
        common = -common
    p = p // common
    q = q // common
    if abs(p) > GREATEST or q > GREATEST:
        return ("error", "size")
    return ("number", p, q)


def joined(one, other):
    """The text of what is shown of both, one behind the other."""
    text = text_of(one) + text_of(other)
    if len(text) > LONGEST_TEXT:
        return ("error", "size")
    return ("text", text)


def truth_of(told):
    """The truth value of a bool."""
    return ("truth", 1) if told else ("truth", 0)


def number_for(value):
    """The number that a value counts as; None if it counts as none."""
    if value is None:
        return ZERO
    return value if value[0] == "number" else None


def is_text(value):
    """Whether a value is a text."""
    return value is not None and value[0] == "text"


def is_error(value):
    """Whether a value is an error."""
    return value is not None and value[0] == "error"


def shown(value):
    """The string that is shown of a value."""
    if not is_value(value):
        raise InvalidValue(value)
    return text_of(plain(value))


def text_of(value):
    """What is shown of a plain value."""
    if value is None:
        return ""
    if value[0] == "number":
        return str(value[1]) if value[2] == 1 else f"{value[1]}/{value[2]}"
    if value[0] == "text":
        return value[1]
    if value[0] == "truth":
        return TRUTH_WORDS[value[1]]
    return "#" + value[1]


def is_less(one, other):
    """Whether the one value stands ahead of the other in the order of values."""
    if not is_value(one):
        raise InvalidValue(one)
    if not is_value(other):
        raise InvalidValue(other)
    return is_ahead(one, other)


def is_ahead(one, other):
    """The like of two things that are known to be values."""
    if rank_of(one) != rank_of(other):
        return rank_of(one) < rank_of(other)
    if one is None:
        return False
    return is_below(one, other) if one[0] == "number" else one[1] < other[1]


def is_below(one, other):
    """Whether the one number is less than the other."""
    return one[1] * other[2] < other[1] * one[2]


def rank_of(value):
    """The place of a value's kind in the order of values."""
    return 0 if value is None else 1 + KINDS.index(value[0])


def written(value):
    """The text from which the value can be read again."""
    text = shown(value)
    return f'"{text}"' if is_text(value) else text


def read_value(text):
    """The value that is written so."""
    if not isinstance(text, str) or not is_written(text):
        raise InvalidText(text)
    return guess_of(text)


def is_written(text):
    """Whether some value is written so."""
    value = guess_of(text)
    # Only the way back tells that nothing but the one way of writing is let.
    return is_value(value) and written(value) == text


def guess_of(text):
    """The only thing that could be written so, perhaps no value, perhaps written in another way."""
    if text.startswith('"'):
        return ("text", text[1:-1])
    if text.startswith("#"):
        return ("error", text[1:])
    if text in TRUTH_WORDS:
        return ("truth", TRUTH_WORDS.index(text))
    return number_from(text)


def number_from(text):
    """The like for numbers alone, None if no number could be."""
    up, slash, down = text.partition("/")
    if not are_figures(up[1:] if up.startswith("-") else up):
        return None
    if slash == "":
        return ("number", int(up), 1)
    return ("number", int(up), int(down)) if are_figures(down) else None


def are_figures(text):
    """Whether it is some figures, and not too many to belong to a number."""
    return 1 <= len(text) <= MOST_FIGURES and all([sign in FIGURES for sign in text])
