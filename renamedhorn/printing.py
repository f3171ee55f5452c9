"""Printing: the texts of clauses, books, weights and mixtures."""


def clause_text(clause):
    """The text of a clause: its literals, or 0."""
    return str(clause)


def book_lines(book):
    """The lines of the text of a book, one for each clause."""
    return [f"{number} {clause_text(book[number])}" for number in book]


def book_text(book):
    """The text of a book: a line for each clause."""
    return "\n".join(book_lines(book))


def _weight_line(name, share):
    """A name in a column of 8 characters and its share in one of 7."""
    return f"{name:<8} {str(share):>7}"


def weights_text(weights):
    """The text of weights: a line for each name."""
    return "\n".join([_weight_line(name, weights[name]) for name in weights])


def mixture_text(mixture):
    """The text of a mixture: its counts and numbers, or 0."""
    parts = [f"{mixture[number]:,} x {number}" for number in mixture]
    if not parts:
        return "0"
    return " + ".join(parts)
