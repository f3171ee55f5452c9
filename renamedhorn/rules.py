"""Rules: what clauses say under a turning that suits them, and what they bring round by round."""

from renamedhorn.books import check_suited
from renamedhorn.errors import NotHeld
from renamedhorn.following import checked_facts
from renamedhorn.literals import check_literal, in_order, negated


class Rule:
    """A clause under a turning: the head holds, or nothing can, once the whole body holds."""

    def __init__(self, number, head, body):
        self.number = number
        self.head = head
        self.body = body


def _rule_of(number, clause, turning):
    """The rule that a clause is under a turning that suits it."""
    head = None
    body = []
    for literal in clause:
        if turning.says_yes(literal):
            head = literal
        else:
            body.append(negated(literal))
    return Rule(number, head, tuple(body))


def rules(book, turning):
    """The rules that the clauses of a book are under a turning, in the order of the numbers."""
    check_suited(book, turning)
    return [_rule_of(number, book[number], turning) for number in book]


def _is_ready(rule, held):
    """Tell whether the whole body of a rule is held."""
    return all([literal in held for literal in rule.body])


def _bringing(known, held):
    """The rules that bring a head that is not held, as their whole bodies are."""
    return [
        rule
        for rule in known
        if rule.head is not None and rule.head not in held and _is_ready(rule, held)
    ]


def _rounds_of(known, turning, given):
    """The rounds of rules and facts."""
    held = [literal for literal in given if turning.says_yes(literal)]
    found = [tuple(held)]
    heads = in_order([rule.head for rule in _bringing(known, held)])
    while heads:
        found.append(tuple(heads))
        held = held + heads
        heads = in_order([rule.head for rule in _bringing(known, held)])
    return found


def rounds(book, turning, facts=()):
    """What the facts and the rules of a book bring, round by round."""
    given = checked_facts(facts)
    return _rounds_of(rules(book, turning), turning, given)


def chained(book, turning, facts=()):
    """Tell whether the rounds go against no rule and against no fact."""
    given = checked_facts(facts)
    known = rules(book, turning)
    held = [literal for row in _rounds_of(known, turning, given) for literal in row]
    if any([negated(literal) in held for literal in given]):
        return False
    return not any([rule.head is None and _is_ready(rule, held) for rule in known])


def _first_bringing(known, head, held):
    """The first rule that brings a head once others are held."""
    return [rule for rule in _bringing(known, held) if rule.head == head][0]


def _ways(known, found):
    """One rule for each literal of the rounds behind the first one, in the order of the rounds."""
    held = list(found[0])
    ways = []
    for heads in found[1:]:
        ways = ways + [_first_bringing(known, head, held) for head in heads]
        held = held + list(heads)
    return ways


def derivation(book, turning, literal, facts=()):
    """The numbers of rules that bring a literal one after another, none without need."""
    check_literal(literal)
    given = checked_facts(facts)
    known = rules(book, turning)
    found = _rounds_of(known, turning, given)
    if not any([literal in row for row in found]):
        raise NotHeld(literal)
    wanted = [literal]
    backwards = []
    for rule in reversed(list(_ways(known, found))):
        if rule.head in wanted:
            backwards.append(rule.number)
            wanted = wanted + list(rule.body)
    return backwards[::-1]
