"""The office: people with a copy and a store each, who send one another what they know."""

from ledgerloom.basics import is_ascending, is_mark, is_name, is_number_to, is_person, is_tuple_of, plain
from ledgerloom.copies import Copy
from ledgerloom.errors import InvalidCell, InvalidName, InvalidNumber
from ledgerloom.places import is_cell
from ledgerloom.seeing import seen, seen_of
from ledgerloom.stores import recovered, store_of_steps

MOST_PEOPLE = 4


class Office:
    """Leads the people's copies of one book, their stores, and what each watches and was told."""

    def __init__(self, book, people):
        if not are_people(people):
            raise InvalidName(people)
        self.people = plain(people)
        self.first_book = book
        self.copies = {person: Copy(person, 0, book) for person in self.people}
        self.stores = {person: () for person in self.people}
        self.watches = {person: {} for person in self.people}
        self.told = {person: {} for person in self.people}

    def steps_of(self, person):
        """The steps that the person's copy knows."""
        return self.copy_of(person).steps

    def book_of(self, person):
        """The book of the person's copy."""
        return self.copy_of(person).book

    def store_of(self, person):
        """The person's store."""
        self.must_be_there(person)
        return self.stores[person]

    def do(self, person, deed):
        """The person's copy makes a step of the deed, which is kept in their store; this step."""
        return self.keep(person, self.copy_of(person).do(deed))

    def undo(self, person, stamp):
        """The like of a step that undoes one."""
        return self.keep(person, self.copy_of(person).undo(stamp))

    def redo(self, person, stamp):
        """The like of a step that does one again."""
        return self.keep(person, self.copy_of(person).redo(stamp))

    def send(self, person, other):
        """The other's copy hears all that the person's knows; how many steps are new to it."""
        steps = self.copy_of(person).steps
        known = self.copy_of(other).steps
        fresh = [step for step in steps if step not in known]
        many = self.copies[other].hear(steps)
        self.stores[other] = self.stores[other] + store_of_steps(fresh)
        return many

    def crash(self, person, many):
        """The person's store is cut, and their copy made anew of what is left; the number of its steps."""
        copy = self.copy_of(person)
        if not is_number_to(many, len(self.stores[person])):
            raise InvalidNumber(many)
        steps, used = recovered(self.stores[person][:many])
        anew = Copy(copy.person, copy.life + 1, self.first_book)
        anew.hear(steps)
        self.copies[person] = anew
        self.stores[person] = self.stores[person][:used]
        return len(steps)

    def tidy(self, person):
        """The person's store becomes that of the steps that they know."""
        self.stores[person] = store_of_steps(self.copy_of(person).steps)

    def see(self, person, cell):
        """What the person is shown of a cell of their book."""
        return seen(self.book_of(person), person, cell)

    def watch(self, person, cell):
        """The person watches this cell, whether it is there or not; the next news tell of it."""
        self.must_be_there(person)
        if not is_triple(cell):
            raise InvalidCell(cell)
        known_cell = plain(cell)
        self.watches[person][known_cell] = True
        self.told[person].pop(known_cell, None)

    def watched(self, person):
        """The pairs of all cells that the person watches and what they are shown of them, None of those not there."""
        book = self.book_of(person)
        cells = sorted(self.watches[person])
        found = seen_of(book, person, [cell for cell in cells if is_cell(book.sheets, cell)])
        return tuple([(cell, found.get(cell)) for cell in cells])

    def news(self, person):
        """Those of the pairs that are unlike what was told last; they count as told then."""
        pairs = self.watched(person)
        told = self.told[person]
        fresh = [(cell, what) for cell, what in pairs if cell not in told or told[cell] != what]
        for cell, what in fresh:
            told[cell] = what
        return tuple(fresh)

    def must_be_there(self, person):
        """The person has to be one of the people."""
        if person not in self.people:
            raise InvalidName(person)

    def copy_of(self, person):
        """The copy of the person, who has to be one of the people."""
        self.must_be_there(person)
        return self.copies[person]

    def keep(self, person, step):
        """Puts the record of a step behind the person's store; the step."""
        self.stores[person] = self.stores[person] + store_of_steps([step])
        return step


def are_people(value):
    """Whether it is an ascending tuple of 1 to 4 names of persons."""
    if not isinstance(value, tuple) or not 1 <= len(value) <= MOST_PEOPLE:
        return False
    return all([is_person(name) for name in value]) and is_ascending(value)


def is_triple(value):
    """Whether it is a triple of a name and two marks, as cells are."""
    return is_tuple_of(value, 3) and is_name(value[0]) and is_mark(value[1]) and is_mark(value[2])
