"""Steps: which there are, which of them are off, and what comes of a draft by the others."""

from ledgerloom.basics import is_ascending, is_stamp, is_tuple_of
from ledgerloom.books import are_at_most
from ledgerloom.deeds import is_deed
from ledgerloom.drafts import draft_from
from ledgerloom.works import made_by

UNDO = "undo"
REDO = "redo"
MOST_STEPS = 120


def is_step(value):
    """Whether it is a step: (stamp, deed)."""
    return is_tuple_of(value, 2) and is_stamp(value[0]) and (is_undoing(value[1]) or is_deed(value[1]))


def is_undoing(value):
    """Whether it is an undo or a redo."""
    return is_tuple_of(value, 2) and value[0] in (UNDO, REDO) and is_stamp(value[1])


def are_few_steps(value):
    """Whether it is a tuple of steps, not too many, in any order."""
    return are_at_most(value, MOST_STEPS, is_step)


def are_steps_in_order(value):
    """Whether it is a tuple of steps, not too many, ascending by their stamps."""
    return are_few_steps(value) and is_ascending([stamp for stamp, _ in value])


def by_stamp(steps):
    """The deeds of these steps by their stamps; None if two unlike ones have one stamp."""
    found = {}
    for stamp, deed in steps:
        if found.setdefault(stamp, deed) != deed:
            return None
    return found


def in_step_order(deeds):
    """The steps of these deeds, which are told by their stamps, ascending."""
    return tuple([(stamp, deeds[stamp]) for stamp in sorted(deeds)])


def off_among(steps):
    """The stamps of those of these ascending steps that are off."""
    deeds = by_stamp(steps)
    last_words = {}
    for stamp, deed in steps:
        if deed[0] in (UNDO, REDO) and aims(deeds, stamp, deed[1]):
            last_words[deed[1]] = deed[0]
    return tuple([stamp for stamp, _ in steps if last_words.get(stamp) == UNDO])


def aims(deeds, stamp, inner):
    """Whether an undo or a redo with this stamp and this inner one aims at a step, of those with these deeds."""
    if inner not in deeds or deeds[inner][0] in (UNDO, REDO):
        return False
    return inner[1] == stamp[1] and inner[0] < stamp[0]


class History:
    """Does the deeds of steps, one behind the other; led to other steps, it begins where they part from those ahead."""

    def __init__(self, book):
        self.steps = ()
        self.drafts = (draft_from(book),)
        self.failed = ()

    def turn(self, steps, off):
        """Leads to these ascending steps, those with these stamps being off."""
        hidden = {stamp: True for stamp in off}
        wanted = [step for step in steps if step[1][0] not in (UNDO, REDO) and step[0] not in hidden]
        kept = alike_ahead(self.steps, wanted)
        drafts = list(self.drafts[:kept + 1])
        failed = list(self.failed[:kept])
        for stamp, deed in wanted[kept:]:
            made = made_by(drafts[-1], stamp, deed)
            failed.append(made is None)
            drafts.append(drafts[-1] if made is None else made)
        self.steps = tuple(wanted)
        self.drafts = tuple(drafts)
        self.failed = tuple(failed)

    def draft(self):
        """What came of all steps."""
        return self.drafts[-1]

    def void_stamps(self):
        """The stamps of the steps that could not be done."""
        return tuple([step[0] for step, failed in zip(self.steps, self.failed) if failed])


def alike_ahead(one, other):
    """How many steps two lists of steps begin with alike."""
    for place, (step, other_step) in enumerate(zip(one, other)):
        if step != other_step:
            return place
    return min(len(one), len(other))
