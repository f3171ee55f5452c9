"""Books: clauses that have numbers."""

from renamedhorn.errors import BadNumber, NoClause, NotSuited, TooMany
from renamedhorn.turnings import turned_clause


def _names_in(clauses):
    """The names that occur in a list of clauses, in ascending order."""
    return sorted(set([name for clause in clauses for name in clause.names]))


def _check_names(clauses):
    """Raise TooMany if a list of clauses has more names than a book may have."""
    if len(_names_in(clauses)) > Book.NAMES:
        raise TooMany(Book.NAMES)


def _check_room(placed, clause):
    """Raise TooMany if one more clause does not fit beside those that have their numbers."""
    if len(placed) >= Book.LIMIT:
        raise TooMany(Book.LIMIT)
    _check_names(list(placed.values()) + [clause])


def _placed_from_one(clauses):
    """The clauses at the numbers that an empty book gives them."""
    placed = {}
    for number, clause in enumerate(clauses, start=1):
        _check_room(placed, clause)
        placed[number] = clause
    return placed


def _all_turned(placed, turning):
    """The clauses at their numbers, each as the turning makes it."""
    return {number: turned_clause(turning, clause) for number, clause in placed.items()}


def book_of(placed, last):
    """The book that holds clauses at their numbers and has given all numbers up to the last one.

    The numbers are in ascending order, and the clauses are no more than a book may have.
    """
    book = Book()
    book._placed = placed
    book._last = last
    return book


class Book:
    """Clauses that have numbers; numbers are never given again."""

    LIMIT = 24
    NAMES = 12
    NUMBERS = 999

    # A book never changes its dict but takes a new one: copies may share it, a refused change
    # leaves nothing half done, and who iterates over a book sees it as it was at the start.
    # The numbers stand in it in ascending order, as each new one is the greatest so far.

    def __init__(self, *clauses):
        self._placed = _placed_from_one(clauses)
        self._last = len(clauses)

    @classmethod
    def numbered(cls, pairs):
        """The book of a list of pairs of a number and a clause, the numbers ascending."""
        placed = {}
        last = 0
        for number, clause in pairs:
            if not last < number <= cls.NUMBERS:
                raise BadNumber(number)
            _check_room(placed, clause)
            placed[number] = clause
            last = number
        return book_of(placed, last)

    @property
    def names(self):
        """The names that occur in the clauses, in ascending order."""
        return tuple(_names_in(list(self._placed.values())))

    @property
    def next_number(self):
        """The number that the next new clause gets."""
        return self._last + 1

    def put(self, clause):
        """Add a clause and return its number."""
        _check_room(self._placed, clause)
        if self.next_number > Book.NUMBERS:
            raise TooMany(Book.NUMBERS)
        self._last = self.next_number
        self._placed = {**self._placed, self._last: clause}
        return self._last

    def drop(self, number):
        """Remove the clause with a number and return it."""
        clause = self[number]
        self._placed = {other: kept for other, kept in self._placed.items() if other != number}
        return clause

    def copy(self):
        """An equal book with the same next number that changes independently."""
        return book_of(self._placed, self._last)

    def __iter__(self):
        return iter(self._placed)

    def __len__(self):
        return len(self._placed)

    def __contains__(self, x):
        # What a dict cannot look up is not in it, and True is not the number 1.
        return isinstance(x, int) and not isinstance(x, bool) and x in self._placed

    def __getitem__(self, at):
        if at not in self:
            raise NoClause(at)
        return self._placed[at]

    def __setitem__(self, at, worth):
        if at not in self:
            raise NoClause(at)
        placed = {**self._placed, at: worth}
        _check_names(list(placed.values()))
        self._placed = placed

    def __eq__(self, other):
        return isinstance(other, Book) and self._placed == other._placed

    def __iadd__(self, other):
        self.put(other)
        return self

    def __isub__(self, other):
        self.drop(other)
        return self

    def __add__(self, other):
        clauses = list(self._placed.values()) + list(other._placed.values())
        return Book(*clauses)

    def __xor__(self, other):
        return book_of(_all_turned(self._placed, other), self._last)

    def __ixor__(self, other):
        self._placed = _all_turned(self._placed, other)
        return self


def unsuited(book, turning):
    """The numbers of the clauses that a turning does not suit, in ascending order."""
    return [number for number in book if not turning.suits(book[number])]


def check_suited(book, turning):
    """Raise NotSuited for the first clause that a turning does not suit."""
    numbers = unsuited(book, turning)
    if numbers:
        raise NotSuited(numbers[0])
