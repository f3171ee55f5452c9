"""Mixtures: counts of clause numbers, and the bounds that they give."""

from renamedhorn.books import Book
from renamedhorn.errors import BadCount, BadNumber
from renamedhorn.literals import check_literal, negated
from renamedhorn.shares import Share


def _check_number(number):
    """Raise BadNumber if no clause can have the number."""
    if not 1 <= number <= Book.NUMBERS:
        raise BadNumber(number)


def _check_count(count):
    """Raise BadCount if a count is below 0 or above the limit."""
    if not 0 <= count <= Mixture.LIMIT:
        raise BadCount(count)


def _ordered(counts):
    """The counts other than 0, in ascending order of their numbers."""
    return {number: counts[number] for number in sorted(set(counts)) if counts[number] != 0}


def _checked(counts):
    """New counts in ascending order of their numbers; the first one that is too great is refused."""
    ordered = _ordered(counts)
    for number in ordered:
        _check_count(ordered[number])
    return ordered


def _added(one, other):
    """The sums of two dicts of counts."""
    numbers = list(one) + list(other)
    return _checked({number: one.get(number, 0) + other.get(number, 0) for number in numbers})


def _multiplied(counts, factor):
    """The counts, each multiplied by a factor."""
    if factor < 0:
        raise BadCount(factor)
    return _checked({number: count * factor for number, count in counts.items()})


def _mixture_of(counts):
    """The mixture with these counts, which are in order."""
    mixture = Mixture()
    mixture._counts = counts
    return mixture


def _counted_clauses(counts, book):
    """The clauses of a book at the numbers that have a count, as pairs of the count and the clause."""
    return [(count, book[number]) for number, count in counts.items()]


def _load(counted, literal):
    """The sum of the counts of those clauses that have a literal."""
    return sum([count for count, clause in counted if literal in clause])


class Mixture:
    """Counts of some clause numbers."""

    LIMIT = 1000000

    # A mixture never changes its dict but takes a new one in which the numbers are in order again.

    def __init__(self, *numbers):
        counts = {}
        for number in numbers:
            _check_number(number)
            counts[number] = counts.get(number, 0) + 1
        self._counts = _ordered(counts)

    @property
    def total(self):
        """The sum of the counts."""
        return sum(list(self._counts.values()))

    def load(self, book, literal):
        """The sum of the counts of the clauses of a book that have a literal."""
        check_literal(literal)
        return _load(_counted_clauses(self._counts, book), literal)

    def least(self, book):
        """The sum, over the names of a book, of the lesser of the loads of both literals."""
        counted = _counted_clauses(self._counts, book)
        return sum([min(int(_load(counted, name)), int(_load(counted, negated(name)))) for name in book.names])

    def excess(self, book):
        """By how much the sum of the lesser loads is above the total."""
        return self.least(book) - self.total

    def bars(self, book):
        """Tell whether the excess is above 0."""
        return self.excess(book) > 0

    def bound(self, book):
        """The sum of the lesser loads over the total, a share."""
        return Share(self.least(book), self.total)

    def __iter__(self):
        return iter(self._counts)

    def __len__(self):
        return len(self._counts)

    def __contains__(self, x):
        # What a dict cannot look up is not in it, and True is not the number 1.
        return isinstance(x, int) and not isinstance(x, bool) and x in self._counts

    def __getitem__(self, at):
        _check_number(at)
        return self._counts.get(at, 0)

    def __setitem__(self, at, worth):
        _check_number(at)
        _check_count(worth)
        self._counts = _ordered({**self._counts, at: worth})

    def __eq__(self, other):
        return isinstance(other, Mixture) and self._counts == other._counts

    def __add__(self, other):
        return _mixture_of(_added(self._counts, other._counts))

    def __iadd__(self, other):
        self._counts = _added(self._counts, other._counts)
        return self

    def __mul__(self, other):
        return _mixture_of(_multiplied(self._counts, other))

    def __rmul__(self, other):
        return self * other
