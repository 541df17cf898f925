"""Copies of a book: what comes of it by steps, however they come to be known."""

from ledgerloom.basics import MOST_NUMBER, checked_person, is_number_to, is_stamp, plain
from ledgerloom.deeds import is_deed
from ledgerloom.drafts import book_from
from ledgerloom.errors import InvalidDeed, InvalidNumber, InvalidStamp
from ledgerloom.steps import (
    REDO, UNDO, History, are_steps_in_order, by_stamp, in_step_order, is_step, is_undoing, off_among,
)
from ledgerloom.works import settled


def book_of(book, steps):
    """What comes of the book by these steps."""
    return book_from(history_of(book, steps).draft())


def void_of(book, steps):
    """The stamps of the steps that are left out, since they cannot be done."""
    return history_of(book, steps).void_stamps()


def off_of(book, steps):
    """The stamps of the steps that are off."""
    return off_among(known_steps(steps))


def history_of(book, steps):
    """The history of the book by these steps."""
    told = known_steps(steps)
    history = History(book)
    history.turn(told, off_among(told))
    return history


def known_steps(steps):
    """The plain steps, which have to be such."""
    if not are_steps_in_order(steps):
        raise InvalidStamp(steps)
    return plain(steps)


class Copy:
    """A person's own copy of a book: whatever steps it comes to know, it does them all in their order."""

    def __init__(self, person, life, book):
        self.person = checked_person(person)
        if not is_number_to(life, MOST_NUMBER):
            raise InvalidNumber(life)
        self.life = plain(life)
        self.history = History(book)
        self.steps = ()
        self.book = book
        self.void = ()
        self.off = ()

    def do(self, deed):
        """Makes a step of the deed; this step."""
        if not is_deed(deed):
            raise InvalidDeed(deed)
        return self.make_step(settled(self.history.draft(), self.next_stamp(), plain(deed)))

    def undo(self, stamp):
        """Makes a step that undoes an own one; this step."""
        if not self.is_own_deed(stamp) or stamp in self.off:
            raise InvalidStamp(stamp)
        return self.make_step((UNDO, plain(stamp)))

    def redo(self, stamp):
        """Makes a step that does an own one again that is off; this step."""
        if not self.is_own_deed(stamp) or stamp not in self.off:
            raise InvalidStamp(stamp)
        return self.make_step((REDO, plain(stamp)))

    def hear(self, steps):
        """Comes to know these steps, too; how many it did not know."""
        if not isinstance(steps, tuple) or not all([is_step(step) for step in steps]):
            raise InvalidStamp(steps)
        deeds = by_stamp(self.steps + plain(steps))
        if deeds is None:
            raise InvalidStamp(steps)
        many = len(deeds) - len(self.steps)
        if many > 0:
            self.know(deeds)
        return many

    def next_stamp(self):
        """The stamp of the next own step."""
        clock = self.steps[-1][0][0] + 1 if len(self.steps) > 0 else 1
        return (clock, self.person, self.life)

    def is_own_deed(self, stamp):
        """Whether it is the stamp of a step of the person, with a deed that is no undo and no redo."""
        if not is_stamp(stamp) or stamp[1] != self.person:
            return False
        deed = by_stamp(self.steps).get(plain(stamp))
        return deed is not None and not is_undoing(deed)

    def make_step(self, deed):
        """Comes to know the step of this deed with the next stamp; this step."""
        step = (self.next_stamp(), deed)
        self.know(by_stamp((*self.steps, step)))
        return step

    def know(self, deeds):
        """Knows the steps of these deeds, which are told by their stamps, and does what is to be done."""
        self.steps = in_step_order(deeds)
        self.off = off_among(self.steps)
        self.history.turn(self.steps, self.off)
        self.void = self.history.void_stamps()
        self.book = book_from(self.history.draft())
