"""Drafts: what deeds are done to, one behind the other, until a book is made of it again."""

from ledgerloom.books import MOST_COLUMNS, MOST_PLACES, MOST_ROWS, MOST_RULES, MOST_SHEETS, MOST_VIEWS, Book


class Draft:
    """What a book holds.

    It stands wherever the owner, the sheets, the views, the summaries and the rights of a book are asked for.
    A book looks at all that it is made of; a draft does not, so that many deeds are done fast. None of these
    is ever changed: each deed makes a new draft. So which rows a view shows is kept, once it is reckoned: of
    many deeds that cannot be done, all are done to one draft.
    """

    def __init__(self, owner, sheets, views, summaries, rights):
        self.owner = owner
        self.sheets = sheets
        self.views = views
        self.summaries = summaries
        self.rights = rights
        self.rows_known = {}


def draft_from(book):
    """The draft of a book."""
    return Draft(book.owner, book.sheets, book.views, book.summaries, book.rights)


def book_from(draft):
    """The book of a draft that is within the bounds."""
    return Book(draft.owner, draft.sheets, draft.views, draft.summaries, draft.rights)


def with_sheets(draft, sheets):
    """The draft with these sheets."""
    return Draft(draft.owner, sheets, draft.views, draft.summaries, draft.rights)


def with_views(draft, views):
    """The draft with these views."""
    return Draft(draft.owner, draft.sheets, views, draft.summaries, draft.rights)


def with_summaries(draft, summaries):
    """The draft with these summaries."""
    return Draft(draft.owner, draft.sheets, draft.views, summaries, draft.rights)


def with_rights(draft, rights):
    """The draft with these rights."""
    return Draft(draft.owner, draft.sheets, draft.views, draft.summaries, rights)


def is_within_bounds(draft):
    """Whether there are not more, and not fewer, things of each kind than a book may have."""
    places = sum([len(rows) * len(columns) for _, rows, columns, _ in draft.sheets])
    if not 1 <= len(draft.sheets) <= MOST_SHEETS or places > MOST_PLACES:
        return False
    if not all([len(rows) <= MOST_ROWS and len(columns) <= MOST_COLUMNS for _, rows, columns, _ in draft.sheets]):
        return False
    return len(draft.views) <= MOST_VIEWS and len(draft.summaries) <= MOST_VIEWS and len(draft.rights) <= MOST_RULES
