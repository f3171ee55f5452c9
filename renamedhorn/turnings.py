"""Turnings: small sets of names that are turned over."""

from renamedhorn.clauses import Clause
from renamedhorn.literals import check_name, few_names, is_positive, name_of, negated


def turned_literal(turning, literal):
    """What a turning makes of a literal."""
    if name_of(literal) in turning.turned:
        return negated(literal)
    return literal


def turned_clause(turning, clause):
    """What a turning makes of a clause."""
    literals = [turned_literal(turning, literal) for literal in clause.literals]
    return Clause(*literals)


def names_apart(one, other):
    """The names that exactly one of two turnings turns, in ascending order."""
    ones = [name for name in one.turned if name not in other.turned]
    others = [name for name in other.turned if name not in one.turned]
    return sorted(set(ones + others))


class Turning:
    """A set of names that are turned over; it never changes."""

    LIMIT = 12

    def __init__(self, *names):
        self.turned = tuple(few_names(names, Turning.LIMIT))

    @staticmethod
    def median(one, two, three):
        """The turning of the names that at least two of three turnings turn."""
        return (one & two) | (one & three) | (two & three)

    def says_yes(self, literal):
        """Tell whether a literal is positive once it is turned."""
        return is_positive(turned_literal(self, literal))

    def suits(self, clause):
        """Tell whether at most one literal of a clause is a yes."""
        return len([literal for literal in clause.literals if self.says_yes(literal)]) <= 1

    def apart(self, other):
        """The number of names that exactly one of two turnings turns."""
        return len(names_apart(self, other))

    def __call__(self, part):
        if isinstance(part, Clause):
            return turned_clause(self, part)
        return turned_literal(self, part)

    def __iter__(self):
        return iter(self.turned)

    def __len__(self):
        return len(self.turned)

    def __contains__(self, x):
        return x in self.turned

    def __getitem__(self, at):
        check_name(at)
        return at in self.turned

    def __eq__(self, other):
        return isinstance(other, Turning) and self.turned == other.turned

    def __lt__(self, other):
        if not isinstance(other, Turning):
            return NotImplemented
        names = names_apart(self, other)
        return len(names) > 0 and names[0] in other.turned

    def __le__(self, other):
        if not isinstance(other, Turning):
            return NotImplemented
        names = names_apart(self, other)
        return len(names) == 0 or names[0] in other.turned

    def __gt__(self, other):
        if not isinstance(other, Turning):
            return NotImplemented
        return other < self

    def __ge__(self, other):
        if not isinstance(other, Turning):
            return NotImplemented
        return other <= self

    def __xor__(self, other):
        names = names_apart(self, other)
        return Turning(*names)

    def __and__(self, other):
        names = [name for name in self.turned if name in other.turned]
        return Turning(*names)

    def __or__(self, other):
        names = self.turned + other.turned
        return Turning(*names)

    def __sub__(self, other):
        names = [name for name in self.turned if name not in other.turned]
        return Turning(*names)

    def __str__(self):
        if not self.turned:
            return "0"
        return " ".join(self.turned)
