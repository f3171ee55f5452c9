"""Reading: clauses and books from their texts."""

from renamedhorn.books import Book
from renamedhorn.clauses import Clause
from renamedhorn.errors import BadLiteral, BadNumber, BadText, BothSigns, TooMany

MOST_DIGITS = 3


def is_number(word, most):
    """Tell whether a word is a number of at most so many digits without leading zeros."""
    return word.isdecimal() and len(word) <= most and str(int(word)) == word


def _clause_in(text, line):
    """The clause whose text stands in a line; the line is what errors tell."""
    if text == str(Clause()):
        return Clause()
    parts = text.split(" | ")
    try:
        clause = Clause(*parts)
    except (BadLiteral, BothSigns, TooMany) as error:
        raise BadText(line) from error
    # Literals that are repeated or out of order show when the clause is written again.
    if str(clause) != text:
        raise BadText(line)
    return clause


def _pair_in(row, line):
    """The number and the clause of one line of a book."""
    word, space, rest = row.partition(" ")
    if not space or not is_number(word, MOST_DIGITS):
        raise BadText(line)
    return int(word), _clause_in(rest, line)


def _book_up_to(pairs, line):
    """The book of the pairs read so far, of which the last one stands in the line."""
    try:
        return Book.numbered(pairs)
    except (BadNumber, TooMany) as error:
        raise BadText(line) from error


def read_clause(text):
    """The clause whose text is exactly the given one."""
    return _clause_in(text, 1)


def book_in(rows):
    """The book whose text has just these lines."""
    book = Book()
    pairs = []
    for line, row in enumerate(rows, start=1):
        pairs.append(_pair_in(row, line))
        # A refused number goes ahead of a wrong form in any later line.
        book = _book_up_to(pairs, line)
    return book


def read_book(text):
    """The book whose text is exactly the given one."""
    if text == "":
        return Book()
    return book_in(text.split("\n"))
