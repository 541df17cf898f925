"""The office told once more, as plainly as it goes: what the package's offices do is compared with this."""

from functools import lru_cache

from ledgerloom.stores import told_of
from tests import model, model_deeds, model_shown


def check_of(row):
    """The check of some bytes, bit by bit as the document tells it."""
    number = 65535
    for byte in row:
        for bit in [int(sign) for sign in f"{byte:08b}"]:
            turned = number >= 32768 and bit == 0 or number < 32768 and bit == 1
            number = number * 2 - 65536 if number >= 32768 else number * 2
            if turned:
                number ^= 4129
    return number


def record_of_text(told):
    """The record of a text."""
    head = [len(told) // 65536, len(told) // 256 % 256, len(told) % 256]
    body = head + [ord(sign) for sign in told]
    check = check_of(body)
    return tuple(body + [check // 256, check % 256])


@lru_cache(maxsize=None)
def record_of(step):
    """The record of a step."""
    return record_of_text(told_of(step))


def store_of(steps):
    """The store of steps."""
    return tuple(byte for step in steps for byte in record_of(step))


class Desk:
    """One person's: the steps that are kept, in the order of the store, the life, what is watched and was told."""

    def __init__(self, person):
        self.person = person
        self.life = 0
        self.kept = []
        self.watched = set()
        self.told = {}

    def steps(self):
        """All steps that are known, ascending."""
        return tuple(sorted(self.kept, key=lambda step: step[0]))


class ModelOffice:
    """An office whose calls are only led through if they are right."""

    def __init__(self, book, people):
        self.first = book
        self.desks = {person: Desk(person) for person in people}

    def outcome(self, person):
        """The book, the void stamps and those that are off."""
        return model_deeds.outcome_of(self.first, self.desks[person].steps())

    def make(self, person, deed):
        """A step of the person."""
        desk = self.desks[person]
        stamp = (max([step[0][0] for step in desk.kept], default=0) + 1, person, desk.life)
        book = self.outcome(person)[0]
        if deed[0] == "put" and model_deeds.done(book, stamp, deed) is not None:
            sheet = [view[1] for view in book.views if view[0] == deed[1]][0]
            deed = ("set", sheet, model_deeds.view_row(book, person, deed), deed[3], deed[4])
        desk.kept.append((stamp, deed))
        return desk.kept[-1]

    def may_undo(self, person, stamp, is_off):
        """Whether the person may undo, or do again, the step of this stamp."""
        deeds = [step[0] for step in self.desks[person].kept if step[1][0] not in ("undo", "redo")]
        own = [other for other in deeds if other[1] == person]
        return stamp in own and (stamp in self.outcome(person)[2]) == is_off

    def send(self, person, other):
        """The number of the steps that are new to the other."""
        fresh = [step for step in self.desks[person].steps() if step not in self.desks[other].kept]
        self.desks[other].kept += fresh
        return len(fresh)

    def crash(self, person, many):
        """The number of the steps whose records are left whole."""
        desk = self.desks[person]
        desk.life += 1
        while len(store_of(desk.kept)) > many:
            desk.kept.pop()
        return len(desk.kept)

    def tidy(self, person):
        """The store in order."""
        self.desks[person].kept = list(self.desks[person].steps())

    def watch(self, person, cell):
        """The person watches the cell."""
        self.desks[person].watched.add(cell)
        self.desks[person].told.pop(cell, None)

    def watched(self, person):
        """The pairs of the cells that are watched and what is seen of them."""
        book = self.outcome(person)[0]
        cells = model.all_cells(book)
        return tuple(
            (cell, model_shown.seen(book, person, cell) if cell in cells else None)
            for cell in sorted(self.desks[person].watched)
        )

    def news(self, person):
        """The pairs that are news."""
        told = self.desks[person].told
        found = tuple((cell, what) for cell, what in self.watched(person) if told.get(cell, "nothing") != what)
        told.update(found)
        return found
