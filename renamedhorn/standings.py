"""Standings: how easy a book is, and what shows it."""

from renamedhorn.codes import by_needs
from renamedhorn.literals import both_signs, name_of, negated
from renamedhorn.mixtures import Mixture
from renamedhorn.needs import all_reached, chain
from renamedhorn.products import Product
from renamedhorn.rings import first_ring, ring_names
from renamedhorn.shares import Share
from renamedhorn.weights import Weights

CROWD = 3


class Standing:
    """The kind of a book, and what shows that it is of this kind."""

    def __init__(self, kind, rings, product, turning, ring, weights, crowded, mixture):
        self.kind = kind
        self.rings = rings
        self.sides = product
        self.turning = turning
        self.ring = ring
        self.weights = weights
        self.crowded = crowded
        self.mixture = mixture


def sides(book):
    """The product over the names of a book that are no ring names, as all chains ask for it."""
    rings = ring_names(book)
    names = [name for name in book.names if name not in rings]
    reached = all_reached(book)
    return Product(names, by_needs(names, {literal: reached[literal] for literal in both_signs(names)}))


def _with_rings(clause, rings):
    """The literals of a clause whose names are ring names."""
    return [literal for literal in clause if name_of(literal) in rings]


def _first_crowded(book, rings):
    """The number of the first clause with three or more ring names, or None."""
    for number in book:
        if len(_with_rings(book[number], rings)) >= CROWD:
            return number
    return None


def _fitting(book, rings, turning):
    """The weights that halve the ring names and follow a turning for the others."""
    weights = Weights.of(turning, list(book.names))
    for name in rings:
        weights[name] = Share(1, 2)
    return weights


def _barring(book, rings, crowded):
    """A mixture that bars the book because of a clause with three or more ring names."""
    # The clauses of a chain from -l to l bring twice the weight of l to 1 or more beside one each.
    # So does each of three literals of the crowded clause, which counts twice and would weigh 3/2.
    numbers = [crowded, crowded]
    for literal in _with_rings(book[crowded], rings)[:CROWD]:
        numbers = numbers + [link[1] for link in chain(book, negated(literal), literal)]
    return Mixture(*numbers)


def standing(book):
    """The standing of a book."""
    rings = tuple(ring_names(book))
    product = sides(book)
    first = product[0]
    if not rings:
        return Standing("plain", rings, product, first, None, _fitting(book, rings, first), None, None)
    ring = first_ring(book)
    crowded = _first_crowded(book, rings)
    if crowded is None:
        return Standing("halved", rings, product, None, ring, _fitting(book, rings, first), None, None)
    return Standing("barred", rings, product, None, ring, None, crowded, _barring(book, rings, crowded))
