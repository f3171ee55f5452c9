"""Models: literals that make a book hold, and how such literals compare under a turning."""

from renamedhorn.literals import check_same, check_signs, in_order, name_of, negated


def is_model(book, literals):
    """Tell whether literals decide on each name of a book once and make each clause hold."""
    ordered = in_order(literals)
    if any([negated(literal) in ordered for literal in ordered]):
        return False
    names = [name_of(literal) for literal in ordered]
    if not all([name in names for name in book.names]):
        return False
    return all([any([literal in ordered for literal in book[number]]) for number in book])


def below(turning, one, other):
    """Tell whether each literal of the first ones that is a yes under a turning is among the others."""
    ones = in_order(one)
    others = in_order(other)
    return all([literal in others for literal in ones if turning.says_yes(literal)])


def meet(turning, one, other):
    """The literals that both have, and of those that differ the ones that are a no under a turning."""
    ones = in_order(one)
    others = in_order(other)
    check_signs(ones)
    check_signs(others)
    check_same([name_of(literal) for literal in ones], [name_of(literal) for literal in others])
    return tuple([
        second if turning.says_yes(first) else first
        for first, second in zip(ones, others)
    ])
