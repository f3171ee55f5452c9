"""Needs: which literals a yes to a literal brings with it, and the chains of such needs."""

from renamedhorn.literals import both_signs, check_literal, in_order, negated


def needs(book, literal):
    """The needs of a literal, as pairs of a number and a literal."""
    check_literal(literal)
    return [
        (number, negated(other))
        for number in book
        if literal in book[number]
        for other in book[number]
        if other != literal
    ]


def all_needs(book):
    """The needs of each literal of the names of a book."""
    return {literal: needs(book, literal) for literal in both_signs(book.names)}


def _arrivals(table, start):
    """For each literal that chains from the start reach, the last link of a shortest one."""
    arrivals = {start: None}
    waiting = [start]
    done = 0
    # Each literal is taken once, in the order of arrival, so the list may grow at its end meanwhile.
    while done < len(waiting):
        literal = waiting[done]
        done = done + 1
        for number, needed in table.get(literal, []):
            if needed not in arrivals:
                arrivals[needed] = (literal, number, needed)
                waiting.append(needed)
    return arrivals


def all_reached(book):
    """The literals to which there are chains from each literal of the names of a book."""
    table = all_needs(book)
    return {literal: list(_arrivals(table, literal)) for literal in table}


def reach(book, literal):
    """All literals to which there is a chain from a literal, itself included, in literal order."""
    check_literal(literal)
    return in_order(list(_arrivals(all_needs(book), literal)))


def chain(book, start, goal):
    """A shortest chain from a start to a goal, or None if there is none."""
    check_literal(start)
    check_literal(goal)
    arrivals = _arrivals(all_needs(book), start)
    if goal not in arrivals:
        return None
    backwards = []
    link = arrivals[goal]
    while link is not None:
        backwards.append(link)
        link = arrivals[link[0]]
    return backwards[::-1]


def is_chain(book, start, goal, links):
    """Tell whether links are a chain from a start to a goal in a book."""
    check_literal(start)
    check_literal(goal)
    end = start
    for literal, number, needed in links:
        if literal != end or (number, needed) not in needs(book, end):
            return False
        end = needed
    return end == goal
