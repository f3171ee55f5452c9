"""Rings: chains from a name to its negation and back, because of which no turning suits a book."""

from renamedhorn.literals import check_name, negated
from renamedhorn.needs import all_reached, chain, is_chain


class Ring:
    """A name with links that should be chains from it to its negation and back."""

    def __init__(self, name, there, back):
        check_name(name)
        self.name = name
        self.there = tuple(there)
        self.back = tuple(back)

    @property
    def numbers(self):
        """The different numbers in the links, in ascending order."""
        return tuple(sorted(set([link[1] for link in self.there + self.back])))

    def bars(self, book):
        """Tell whether both rows of links are the chains of a book that they should be."""
        opposite = negated(self.name)
        if not is_chain(book, self.name, opposite, self.there):
            return False
        return is_chain(book, opposite, self.name, self.back)


def ring_names(book):
    """The names that chains lead to their negations and back, in ascending order."""
    reached = all_reached(book)
    return [
        name
        for name in book.names
        if negated(name) in reached[name] and name in reached[negated(name)]
    ]


def ring_at(book, name):
    """A ring of shortest chains that has the name and bars the book, or None."""
    check_name(name)
    there = chain(book, name, negated(name))
    back = chain(book, negated(name), name)
    if there is None or back is None:
        return None
    return Ring(name, there, back)


def first_ring(book):
    """A ring of the first ring name, or None if the book is plain."""
    names = ring_names(book)
    if not names:
        return None
    return ring_at(book, names[0])


def apart_rings(book):
    """Rings without common numbers that bar the book, and without whose clauses it is plain."""
    left = book.copy()
    rings = []
    ring = first_ring(left)
    while ring is not None:
        rings.append(ring)
        for number in ring.numbers:
            left.drop(number)
        ring = first_ring(left)
    return rings
