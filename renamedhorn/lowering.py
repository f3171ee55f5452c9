"""Lowering: the model that is below every other one under a turning that suits the book."""

from renamedhorn.books import check_suited
from renamedhorn.errors import NoModel
from renamedhorn.following import checked_facts
from renamedhorn.settling import answer_by_splits


def lowest(book, turning, facts=()):
    """The lowest model of a book and facts under a turning."""
    given = checked_facts(facts)
    check_suited(book, turning)
    answer = answer_by_splits(book, (), turning, given)
    if answer.model is None:
        raise NoModel(answer.paper)
    return answer.model
