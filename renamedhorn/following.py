"""Following: what clauses make hold, one after another, once some facts are taken to hold."""

from renamedhorn.books import book_of
from renamedhorn.clauses import Clause
from renamedhorn.errors import NotHeld, TooMany
from renamedhorn.literals import check_literal, check_signs, in_order, negated

MOST_FACTS = 12


def checked_facts(facts):
    """The different facts in literal order; this raises the errors of the facts."""
    ordered = in_order(facts)
    check_signs(ordered)
    if len(ordered) > MOST_FACTS:
        raise TooMany(MOST_FACTS)
    return tuple(ordered)


def rows_of(book):
    """The clauses of a book as pairs: the number, and the literals, each with its negation."""
    return [(number, [(literal, negated(literal)) for literal in book[number]]) for number in book]


def _next_step(rows, held):
    """The step of the first row that brings a literal or is broken, or None."""
    for number, literals in rows:
        if not any([literal in held for literal, _ in literals]):
            left = [literal for literal, negation in literals if negation not in held]
            if not left:
                return number, None
            if len(left) == 1:
                return number, left[0]
    return None


def steps_from(rows, facts):
    """All steps of the following of rows; if it is broken, the last one is a number and None."""
    held = {literal: True for literal in facts}
    steps = []
    step = _next_step(rows, held)
    while step is not None:
        steps.append(step)
        if step[1] is None:
            return steps
        held[step[1]] = True
        step = _next_step(rows, held)
    return steps


def is_broken(steps):
    """Tell whether steps end with a number at which the following is broken."""
    return len(steps) > 0 and steps[-1][1] is None


class Trail:
    """What a following held, step by step, and where it was broken."""

    def __init__(self, facts, steps, broken):
        self.facts = facts
        self.steps = steps
        self.broken = broken

    @property
    def held(self):
        """All held literals, in literal order."""
        return tuple(in_order(list(self.facts) + [literal for _, literal in self.steps]))

    def why(self, literal):
        """The number of the step that held a literal, or None for a fact."""
        check_literal(literal)
        if literal in self.facts:
            return None
        for number, other in self.steps:
            if other == literal:
                return number
        raise NotHeld(literal)

    def __iter__(self):
        return iter(self.steps)

    def __len__(self):
        return len(self.steps)

    def __contains__(self, x):
        return x in self.held


def following(book, facts=()):
    """Yield the steps of the following, and at last a number and None if it is broken there."""
    given = checked_facts(facts)
    for step in steps_from(rows_of(book), given):
        yield step


def follow(book, facts=()):
    """The trail of the following of a book and facts."""
    given = checked_facts(facts)
    steps = steps_from(rows_of(book), given)
    if is_broken(steps):
        return Trail(given, tuple(steps[:-1]), steps[-1][0])
    return Trail(given, tuple(steps), None)


def rest(book, trail):
    """The book of what a trail leaves of those clauses that it does not make hold."""
    held = trail.held
    left = {}
    for number in book:
        clause = book[number]
        if not any([literal in held for literal in clause]):
            literals = [literal for literal in clause if negated(literal) not in held]
            left[number] = Clause(*literals)
    return book_of(left, book.next_number - 1)
