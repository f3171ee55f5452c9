"""Refutations: papers that show that a book and facts have no model."""

from renamedhorn.following import checked_facts
from renamedhorn.literals import check_name, name_of, negated


def _all_fail(literals, held):
    """Tell whether the negation of each literal is held."""
    return all([negated(literal) in held for literal in literals])


def _is_right_step(book, held, number, literal):
    """Tell whether a clause of the book has a literal and all its other literals fail."""
    if number not in book or literal not in book[number]:
        return False
    return _all_fail([other for other in book[number] if other != literal], held)


def _steps_refute(steps, book, facts):
    """Tell whether steps are right from the facts on and end with a clause that fails."""
    if not steps:
        return False
    held = {literal: True for literal in facts}
    for number, literal in steps[:-1]:
        if not _is_right_step(book, held, number, literal):
            return False
        held[literal] = True
    number, end = steps[-1]
    return end is None and number in book and _all_fail(book[number], held)


def _refutes(paper, book, facts):
    """Tell whether a refutation, or the None that stands for a missing one, is right."""
    if paper is None:
        return False
    if paper.name is None:
        return _steps_refute(paper.steps, book, facts)
    if paper.steps or paper.name in [name_of(literal) for literal in facts]:
        return False
    if not _refutes(paper.when, book, facts + (paper.name,)):
        return False
    return _refutes(paper.unless, book, facts + (negated(paper.name),))


def _depth(paper):
    """How often a refutation splits; a missing one does not."""
    if paper is None or paper.name is None:
        return 0
    return 1 + max(int(_depth(paper.when)), int(_depth(paper.unless)))


class Refutation:
    """Steps that end with a clause that fails, or a split at a name with a refutation of each side."""

    def __init__(self, steps, name=None, when=None, unless=None):
        if name is not None:
            check_name(name)
        self.steps = tuple(steps)
        self.name = name
        self.when = when
        self.unless = unless

    @property
    def depth(self):
        """The greatest number of splits one inside the other."""
        return _depth(self)

    def refutes(self, book, facts=()):
        """Tell whether this shows that a book and facts have no model."""
        return _refutes(self, book, checked_facts(facts))
