"""Settling: a model of a book and facts, or a refutation of them."""

from renamedhorn.codes import bits_of, common_literals, having, literals_in, model_codes
from renamedhorn.errors import NoModel
from renamedhorn.following import checked_facts, is_broken, rows_of, steps_from
from renamedhorn.literals import in_order, negated
from renamedhorn.products import all_turnings
from renamedhorn.refutations import Refutation
from renamedhorn.turnings import Turning


class Answer:
    """A model and None, or None and a refutation."""

    def __init__(self, model, paper):
        self.model = model
        self.paper = paper


def _held_after(facts, steps):
    """The facts and what the steps hold."""
    return list(facts) + [literal for _, literal in steps]


def _open_names(names, held):
    """The names of which neither literal is held."""
    return [name for name in names if name not in held and negated(name) not in held]


def _all_no(names, turning):
    """The literals of the names that are a no under a turning."""
    return [name if name in turning.turned else negated(name) for name in names]


def _split_name(rows, held, names):
    """The first of those names of which the most literals break the following at once."""
    best = names[0]
    most = 0
    for name in names:
        sides = [steps_from(rows, held + [literal]) for literal in (name, negated(name))]
        many = len([steps for steps in sides if is_broken(steps)])
        if many > most:
            best = name
            most = many
    return best


def answer_by_splits(book, names, turning, facts):
    """The answer for a book and facts, by splits at those of the names that following leaves open.

    The turning suits the book without these names. What is open in the end is a no under it.
    """
    rows = rows_of(book)
    steps = steps_from(rows, facts)
    if is_broken(steps):
        return Answer(None, Refutation(steps))
    held = _held_after(facts, steps)
    left = _open_names(names, held)
    if not left:
        model = held + _all_no(_open_names(book.names, held), turning)
        return Answer(tuple(in_order(model)), None)
    # In a halved book without a model some name breaks at once on both sides: one split is enough.
    name = _split_name(rows, held, left)
    when = answer_by_splits(book, names, turning, facts + (name,))
    if when.model is not None:
        return when
    unless = answer_by_splits(book, names, turning, facts + (negated(name),))
    if unless.model is not None:
        return unless
    return Answer(None, Refutation((), name, when.paper, unless.paper))


def settle(book, facts=()):
    """The answer for a book and facts: a model of them or a refutation."""
    given = checked_facts(facts)
    turnings = all_turnings(book)
    if turnings.many == 0:
        return answer_by_splits(book, book.names, Turning(), given)
    return answer_by_splits(book, (), turnings[0], given)


def can_hold(book, facts=()):
    """Tell whether a book and facts have a model."""
    return settle(book, facts).model is not None


def _model_codes(book, given):
    """The codes over the names of a book of its models that have the facts."""
    return having(model_codes(book, book.names), bits_of(book.names, given))


def models(book, facts=()):
    """Yield all models of a book and facts, in ascending order."""
    given = checked_facts(facts)
    names = book.names
    for code in _model_codes(book, given):
        yield tuple(in_order(literals_in(names, code) + list(given)))


def settled(book, facts=()):
    """The literals that are in every model of a book and facts, in literal order."""
    answer = settle(book, facts)
    if answer.model is None:
        raise NoModel(answer.paper)
    given = checked_facts(facts)
    common = common_literals(book.names, _model_codes(book, given))
    return tuple(in_order(common + list(given)))
