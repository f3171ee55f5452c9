"""Families: sets of choices over a few names."""

from renamedhorn.clauses import Clause
from renamedhorn.codes import all_codes, bits_of, code_of, having, literals_in, model_codes, recoded
from renamedhorn.errors import NotClosed
from renamedhorn.literals import (
    check_known, check_same, check_signs, few_names, in_order, name_of, names_in_order, negated,
)
from renamedhorn.products import Product


def _code_in(names, choice):
    """The code of a choice, which must have one literal of each of the names."""
    literals = in_order(choice)
    check_signs(literals)
    check_same(names, [name_of(literal) for literal in literals])
    _, ones = bits_of(names, literals)
    return ones


def _family_of(names, codes):
    """The family over names of the choices for which codes stand."""
    return Family(names, [literals_in(names, code) for code in codes])


def _met(one, other, turned):
    """The meet of two codes under the turning of the names whose bits are 1 in a third one."""
    return ((one | other) & ~turned) | (one & other)


def _met_all(codes, turned):
    """The meet of all of some codes."""
    least = codes[0]
    for code in codes[1:]:
        least = _met(least, code, turned)
    return least


def _first_gap(codes, turned):
    """The first two of some codes whose meet is not among them, or None."""
    known = {code: True for code in codes}
    for place, one in enumerate(codes):
        for other in codes[place + 1:]:
            if _met(one, other, turned) not in known:
                return one, other
    return None


def _above(codes, turned, code):
    """Those of some codes that one is below."""
    return [other for other in codes if _met(code, other, turned) == code]


def _is_spanned(codes, turned, code):
    """Tell whether a code is the meet of some of the codes."""
    # If it is, it is also the meet of all those that it is below.
    above = _above(codes, turned, code)
    return len(above) > 0 and _met_all(above, turned) == code


def _clause_against(names, codes, turning, outside):
    """A clause that the turning suits and all codes have a literal of, but not the one outside their span."""
    turned = code_of(names, turning.turned)
    literals = literals_in(names, outside)
    parts = [negated(literal) for literal in literals if turning.says_yes(literal)]
    above = _above(codes, turned, outside)
    if above:
        # What all above have in common is more than the one outside has: one yes of that is the head.
        common = literals_in(names, _met_all(above, turned))
        parts = parts + [literal for literal in common if literal not in literals][:1]
    return Clause(*parts)


def _failing(names, codes, clause):
    """Those of some codes that have no literal of a clause."""
    return having(codes, bits_of(names, [negated(literal) for literal in clause]))


def _needed(rows):
    """The clauses of pairs of a clause and codes without those whose codes the others have as well."""
    counts = {}
    for _, codes in rows:
        for code in codes:
            counts[code] = counts.get(code, 0) + 1
    needed = []
    for clause, codes in rows:
        if any([counts[code] == 1 for code in codes]):
            needed.append(clause)
        else:
            for code in codes:
                counts[code] = counts[code] - 1
    return needed


class Family:
    """A set of choices over some names; it never changes."""

    LIMIT = 6

    def __init__(self, names, choices):
        ordered = few_names(names, Family.LIMIT)
        codes = [_code_in(ordered, choice) for choice in choices]
        self._names = tuple(ordered)
        self._codes = tuple(sorted(set(codes)))
        self._choices = tuple([tuple(literals_in(ordered, code)) for code in self._codes])

    @classmethod
    def of(cls, book, names):
        """The family over names of the choices that have a literal of each clause of a book."""
        ordered = few_names(names, cls.LIMIT)
        check_known(ordered, book.names)
        return cls(ordered, [literals_in(ordered, code) for code in model_codes(book, ordered)])

    @property
    def names(self):
        """The names, in ascending order."""
        return self._names

    def onto(self, *names):
        """The family over some of the names of the choices cut down to these."""
        ordered = names_in_order(names)
        check_known(self._names, names)
        return _family_of(ordered, recoded(self._names, self._codes, ordered))

    def says(self, clause):
        """Tell whether every choice has a literal of a clause."""
        check_known(self._names, clause.names)
        return len(_failing(self._names, self._codes, clause)) == 0

    def gap(self, turning):
        """The first two choices whose meet under a turning is missing, or None."""
        pair = _first_gap(self._codes, code_of(self._names, turning.turned))
        if pair is None:
            return None
        one, other = pair
        return tuple(literals_in(self._names, one)), tuple(literals_in(self._names, other))

    def closed(self, turning):
        """Tell whether the meet of each two choices under a turning is here as well."""
        return self.gap(turning) is None

    def span(self, turning):
        """The least family that is closed under a turning and holds all of these choices."""
        turned = code_of(self._names, turning.turned)
        every = all_codes(self._names)
        return _family_of(self._names, [code for code in every if _is_spanned(self._codes, turned, code)])

    def corners(self, turning):
        """The family of those choices that the span of the others does not hold."""
        turned = code_of(self._names, turning.turned)
        corners = []
        for code in self._codes:
            others = [other for other in self._codes if other != code]
            if not _is_spanned(others, turned, code):
                corners.append(code)
        return _family_of(self._names, corners)

    def closing(self):
        """The product of the turnings of the names under which the family is closed."""
        every = all_codes(self._names)
        return Product(self._names, [turned for turned in every if _first_gap(self._codes, turned) is None])

    def clauses(self, turning):
        """Clauses that a turning suits and that say together just what the family says."""
        pair = self.gap(turning)
        if pair is not None:
            raise NotClosed(pair)
        outside = [code for code in all_codes(self._names) if code not in self._codes]
        rows = []
        for code in outside:
            clause = _clause_against(self._names, self._codes, turning, code)
            rows.append((clause, _failing(self._names, outside, clause)))
        return _needed(rows)

    def __iter__(self):
        return iter(self._choices)

    def __len__(self):
        return len(self._choices)

    def __contains__(self, x):
        return x in self._choices

    def __eq__(self, other):
        return isinstance(other, Family) and self._choices == other._choices and self._names == other._names

    def __lt__(self, other):
        if not isinstance(other, Family):
            return NotImplemented
        return self <= other and len(self._choices) < len(other._choices)

    def __le__(self, other):
        if not isinstance(other, Family):
            return NotImplemented
        check_same(self._names, other._names)
        return all([code in other._codes for code in self._codes])

    def __and__(self, other):
        check_same(self._names, other._names)
        return _family_of(self._names, [code for code in self._codes if code in other._codes])

    def __or__(self, other):
        check_same(self._names, other._names)
        return _family_of(self._names, self._codes + other._codes)

    def __xor__(self, other):
        turned = code_of(self._names, other.turned)
        return _family_of(self._names, [code ^ turned for code in self._codes])
