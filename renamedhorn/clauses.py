"""Clauses: small sets of literals of different names."""

from renamedhorn.errors import TooMany
from renamedhorn.literals import check_signs, in_order, is_positive, name_of


class Clause:
    """A set of literals of different names; it never changes."""

    LIMIT = 6

    def __init__(self, *literals):
        ordered = in_order(literals)
        check_signs(ordered)
        if len(ordered) > Clause.LIMIT:
            raise TooMany(Clause.LIMIT)
        self.literals = tuple(ordered)

    @property
    def names(self):
        """The names of the literals, in ascending order."""
        return tuple([name_of(literal) for literal in self.literals])

    @property
    def positives(self):
        """The number of positive literals."""
        return len([literal for literal in self.literals if is_positive(literal)])

    def __iter__(self):
        return iter(self.literals)

    def __len__(self):
        return len(self.literals)

    def __contains__(self, x):
        return x in self.literals

    def __eq__(self, other):
        return isinstance(other, Clause) and self.literals == other.literals

    def __lt__(self, other):
        if not isinstance(other, Clause):
            return NotImplemented
        return self <= other and len(self.literals) < len(other.literals)

    def __le__(self, other):
        if not isinstance(other, Clause):
            return NotImplemented
        return all([literal in other.literals for literal in self.literals])

    def __or__(self, other):
        both = self.literals + other.literals
        return Clause(*both)

    def __and__(self, other):
        shared = [literal for literal in self.literals if literal in other.literals]
        return Clause(*shared)

    def __sub__(self, other):
        left = [literal for literal in self.literals if literal not in other.literals]
        return Clause(*left)

    def __str__(self):
        if not self.literals:
            return "0"
        return " | ".join(self.literals)
