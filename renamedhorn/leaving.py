"""Leaving clauses out: what must go so that the others form a plain book."""

from renamedhorn.books import Book, unsuited
from renamedhorn.codes import all_codes, turned_in
from renamedhorn.errors import TooMany
from renamedhorn.literals import negated
from renamedhorn.rings import ring_names
from renamedhorn.turnings import Turning

MOST_NAMES = 8


class Leaving:
    """The fewest clauses to leave, a turning that suits the others, and the proof as a tree of splits."""

    def __init__(self, left, turning, tree):
        self.left = left
        self.turning = turning
        self.tree = tree


def left_out(book):
    """The numbers of the clauses that do not fit to those kept before, in ascending order."""
    kept = Book()
    left = []
    for number in book:
        wider = kept + Book(book[number])
        if ring_names(wider):
            left.append(number)
        else:
            kept = wider
    return tuple(left)


def _first_best(book):
    """The first turning that leaves the fewest clauses that it does not suit."""
    best = Turning()
    fewest = len(unsuited(book, best))
    for code in all_codes(book.names):
        turned = turned_in(book.names, code)
        turning = Turning(*turned)
        many = len(unsuited(book, turning))
        if many < fewest:
            best = turning
            fewest = many
    return best


def _crowded_numbers(book, yes):
    """The numbers of the clauses that have at least two of the literals."""
    return [number for number in book if len([literal for literal in book[number] if literal in yes]) >= 2]


def _tree(book, names, yes, least):
    """The tree that splits the names until at least so many clauses have two of the yes literals."""
    numbers = _crowded_numbers(book, yes)
    if len(numbers) >= least:
        return "leaf", tuple(numbers)
    name = names[0]
    kept = _tree(book, names[1:], yes + [name], least)
    turned = _tree(book, names[1:], yes + [negated(name)], least)
    return "split", name, kept, turned


def least_left(book):
    """The fewest clauses without which the book is plain, with what shows that."""
    if len(book.names) > MOST_NAMES:
        raise TooMany(MOST_NAMES)
    turning = _first_best(book)
    left = tuple(unsuited(book, turning))
    return Leaving(left, turning, _tree(book, book.names, [], len(left)))
