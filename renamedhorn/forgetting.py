"""Forgetting: a book without one of its names that says the same of the others."""

from renamedhorn.books import Book
from renamedhorn.clauses import Clause
from renamedhorn.literals import check_name, name_of, negated


def _joined(one, other, name):
    """The clause of the literals of two clauses but those of a name, or None if it says nothing."""
    literals = [literal for literal in list(one) + list(other) if name_of(literal) != name]
    if any([negated(literal) in literals for literal in literals]):
        return None
    return Clause(*literals)


def _taken(book, name):
    """The clauses without a name, and those joined from one clause with each of its literals."""
    clauses = [book[number] for number in book]
    taken = [clause for clause in clauses if name not in clause.names]
    for one in [clause for clause in clauses if name in clause]:
        for other in [clause for clause in clauses if negated(name) in clause]:
            joined = _joined(one, other, name)
            if joined is not None:
                taken.append(joined)
    return taken


def _least(clauses):
    """The clauses without those that contain others and without those that stand earlier."""
    return [
        clause
        for place, clause in enumerate(clauses)
        if clause not in clauses[:place] and not any([other < clause for other in clauses])
    ]


def forget(book, name):
    """The book of what the clauses say without a name."""
    check_name(name)
    clauses = _least(_taken(book, name))
    return Book(*clauses)
