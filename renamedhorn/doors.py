"""Doors: names without which a book is plain, and settling by splits at these names."""

from renamedhorn.books import book_of
from renamedhorn.clauses import Clause
from renamedhorn.errors import NotPlain, TooMany
from renamedhorn.following import checked_facts
from renamedhorn.literals import name_of, names_in_order
from renamedhorn.products import all_turnings
from renamedhorn.rings import first_ring, ring_names
from renamedhorn.settling import answer_by_splits

MOST_NAMES = 8


class Door:
    """The fewest names without which a book is plain, with a turning and the rings that show this."""

    def __init__(self, taken, turning, rings):
        self.taken = taken
        self.turning = turning
        self.rings = rings


def _clause_without(clause, names):
    """A clause that has lost the literals of some names."""
    literals = [literal for literal in clause if name_of(literal) not in names]
    return Clause(*literals)


def without(book, names):
    """The book whose clauses have lost the literals of some names."""
    lost = names_in_order(names)
    left = {number: _clause_without(book[number], lost) for number in book}
    return book_of(left, book.next_number - 1)


def is_door(book, names):
    """Tell whether a book without some names is plain."""
    return not ring_names(without(book, names))


def _sets_of(names, many):
    """All sets of so many of the names, in the order of their names."""
    if many == 0:
        return [[]]
    return [
        [name] + others
        for place, name in enumerate(names)
        for others in _sets_of(names[place + 1:], many - 1)
    ]


def _first_door(book, many):
    """The first door of so many names of a book, or None."""
    for names in _sets_of(book.names, many):
        if is_door(book, names):
            return names
    return None


def _rings_before(book, taken):
    """A ring for each set of names that has one name fewer than a least door."""
    if not taken:
        return []
    return [first_ring(without(book, names)) for names in _sets_of(book.names, len(taken) - 1)]


def least_door(book):
    """The first one of the doors of a book that have the fewest names."""
    if len(book.names) > MOST_NAMES:
        raise TooMany(MOST_NAMES)
    many = 0
    taken = _first_door(book, many)
    # All names of the book form a door, so the search ends with them.
    while taken is None:
        many = many + 1
        taken = _first_door(book, many)
    turning = all_turnings(without(book, taken))[0]
    return Door(tuple(taken), turning, _rings_before(book, taken))


def settle_through(book, names, facts=()):
    """The answer for a book and facts by splits at the names of a door alone."""
    ordered = names_in_order(names)
    given = checked_facts(facts)
    left = without(book, ordered)
    ring = first_ring(left)
    if ring is not None:
        raise NotPlain(ring)
    known = [name for name in book.names if name in ordered]
    return answer_by_splits(book, known, all_turnings(left)[0], given)
