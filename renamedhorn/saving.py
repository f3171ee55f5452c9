"""Saving: the texts of desks, and desks from their texts."""

from renamedhorn.books import Book, book_of
from renamedhorn.desks import desk_of
from renamedhorn.errors import BadLiteral, BadName, BadText, BothSigns, TooMany
from renamedhorn.following import checked_facts
from renamedhorn.printing import book_lines
from renamedhorn.products import all_turnings
from renamedhorn.reading import book_in, is_number
from renamedhorn.turnings import Turning

NEXT = "next "
MOST_DIGITS = 4
NO_TURNING = "turning -"


def _line(word, parts):
    """A word and parts, each with one space before it."""
    return " ".join([word] + list(parts))


def _turning_line(turning):
    """The line of a current turning."""
    if turning is None:
        return NO_TURNING
    return _line("turning", turning)


def desk_text(desk):
    """The text of a desk: that of its book and four lines more."""
    book = desk.book
    return "\n".join(book_lines(book) + [
        f"{NEXT}{book.next_number}",
        _line("facts", desk.kept_facts),
        _turning_line(desk.current),
        "strict" if desk.strict else "free",
    ])


def _place_of_next(lines):
    """How many lines stand before the one that tells the next number."""
    for place, row in enumerate(lines):
        if row.startswith(NEXT):
            return place
    return len(lines)


def _row_at(lines, place):
    """The line at a place, where the text may have ended."""
    if place >= len(lines):
        raise BadText(place + 1)
    return lines[place]


def _with_next(book, lines, place):
    """A book with the next number that a line tells."""
    word = _row_at(lines, place).removeprefix(NEXT)
    if not is_number(word, MOST_DIGITS) or not book.next_number <= int(word) <= Book.NUMBERS + 1:
        raise BadText(place + 1)
    return book_of({number: book[number] for number in book}, int(word) - 1)


def _facts_in(lines, place):
    """The facts that a line tells."""
    row = _row_at(lines, place)
    try:
        facts = checked_facts(row.split(" ")[1:])
    except (BadLiteral, BothSigns, TooMany) as error:
        raise BadText(place + 1) from error
    # Another word, or facts that are repeated or out of order, show when the line is written again.
    if _line("facts", facts) != row:
        raise BadText(place + 1)
    return facts


def _turning_told(row, line):
    """The turning that the names in a row make; the line is what errors tell."""
    names = row.split(" ")[1:]
    try:
        return Turning(*names)
    except (BadName, TooMany) as error:
        raise BadText(line) from error


def _turning_in(lines, place, book):
    """The current turning of a book that a line tells, or None."""
    row = _row_at(lines, place)
    turnings = all_turnings(book)
    if turnings.many == 0 and row == NO_TURNING:
        return None
    turning = _turning_told(row, place + 1)
    if turning not in turnings or _turning_line(turning) != row:
        raise BadText(place + 1)
    return turning


def _flag_in(lines, place, turning):
    """The flag that a line tells; a book without a current turning is not plain."""
    row = _row_at(lines, place)
    if row == "free":
        return False
    if row != "strict" or turning is None:
        raise BadText(place + 1)
    return True


def read_desk(text):
    """The desk whose text is exactly the given one."""
    lines = text.split("\n")
    place = _place_of_next(lines)
    book = _with_next(book_in(lines[:place]), lines, place)
    facts = _facts_in(lines, place + 1)
    turning = _turning_in(lines, place + 2, book)
    strict = _flag_in(lines, place + 3, turning)
    if len(lines) > place + 4:
        raise BadText(place + 5)
    return desk_of(book, facts, turning, strict)
