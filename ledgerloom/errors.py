"""The errors of the package, each of which keeps what it is made with."""


class BookError(ValueError):
    """What all errors stand under; never raised itself."""


class InvalidNumber(BookError):
    """What should be a number is none, or is out of its bounds."""

    def __init__(self, value):
        self.value = value


class InvalidName(BookError):
    """What should be a name is none, or names nothing that is there."""

    def __init__(self, value):
        self.value = value


class InvalidValue(BookError):
    """What should be a value is none."""

    def __init__(self, value):
        self.value = value


class InvalidTree(BookError):
    """What should be the tree of a formula is none."""

    def __init__(self, value):
        self.value = value


class InvalidText(BookError):
    """What should be a sign, or the text of something, is none."""

    def __init__(self, value):
        self.value = value


class InvalidSheets(BookError):
    """What should be sheets are none."""

    def __init__(self, value):
        self.value = value


class InvalidViews(BookError):
    """What should be views or summaries are none."""

    def __init__(self, value):
        self.value = value


class InvalidRights(BookError):
    """What should be rights are none."""

    def __init__(self, value):
        self.value = value


class InvalidCell(BookError):
    """What should be a cell, or cells, is none."""

    def __init__(self, value):
        self.value = value


class InvalidDeed(BookError):
    """What should be a deed is none."""

    def __init__(self, value):
        self.value = value


class InvalidStamp(BookError):
    """What should be a stamp, or steps, is none."""

    def __init__(self, value):
        self.value = value


class InvalidMark(BookError):
    """What should be the mark of a column is none that is there."""

    def __init__(self, value):
        self.value = value


class InvalidBytes(BookError):
    """What should be bytes are none."""

    def __init__(self, value):
        self.value = value


class Undefined(BookError):
    """What is asked for is well formed, but there is no answer."""

    def __init__(self, what):
        self.what = what
