"""What all tests of the project share."""

import itertools
import random
import unittest

from renamedhorn.books import Book
from renamedhorn.clauses import Clause
from renamedhorn.errors import BadLiteral, BothSigns, NoModel, NotHeld, NotPlain, NotSuited, TooMany
from renamedhorn.literals import name_of
from renamedhorn.refutations import Refutation

TWELVE = list("abcdefghijkl")
THIRTEEN = [*TWELVE, "m"]
NO_NAMES = ["", "-", "-a", "A", "a b", "1a", "a_", "abcdefghi", "name_of_nine", "a\n"]
OTHER_THAN_FACTS = (NoModel, NotHeld, NotPlain, NotSuited)
NO_LITERALS = ["", "-", "--a", "A", "-A", "a b", "a | b", "0", "-1a", "abcdefghi", "-abcdefghi"]


class Case(unittest.TestCase):
    """A test case that looks at what an error keeps as well as at its class."""

    def refused(self, error, *args, **kept):
        """Call args[0] with the rest: it raises just this error, which keeps just this."""
        with self.assertRaises(error) as caught:
            args[0](*args[1:])
        self.assertIs(type(caught.exception), error)
        self.assertEqual(vars(caught.exception), kept)
        return caught.exception

    def ordered(self, rows, low, high):
        """Assert that all comparisons of two objects are those of two numbers."""
        self.assertIs(rows[0] == rows[1], low == high)
        self.assertIs(rows[0] != rows[1], low != high)
        self.assertIs(rows[0] < rows[1], low < high)
        self.assertIs(rows[0] <= rows[1], low <= high)
        self.assertIs(rows[0] > rows[1], low > high)
        self.assertIs(rows[0] >= rows[1], low >= high)

    def facts_are_checked(self, call):
        """Assert that a call of facts raises the errors of the facts in their order."""
        for kind in (list, tuple):
            for facts in ([], ["a", "a"], TWELVE, [*TWELVE, *TWELVE], ["-" + name for name in THIRTEEN[1:]]):
                self.takes_facts(call, kind(facts))
            for text in NO_LITERALS:
                self.refused(BadLiteral, call, kind(["a", text, "B"]), text=text)
                self.refused(BadLiteral, call, kind(["a", "-a", *THIRTEEN, text]), text=text)
            self.refused(BothSigns, call, kind(["c", "-b", "a", "-c", "b"]), name="b")
            self.refused(BothSigns, call, kind([*THIRTEEN, "-m"]), name="m")
            self.refused(TooMany, call, kind(THIRTEEN), limit=12)
            self.refused(TooMany, call, kind(["-" + name for name in [*THIRTEEN, "n"]]), limit=12)

    def takes_facts(self, call, facts):
        """Assert that a call of facts does not raise the errors of the facts and does not change them."""
        before = list(facts)
        try:
            call(facts)
        except OTHER_THAN_FACTS:
            pass
        self.assertEqual(list(facts), before)

    def refused_by_paper(self, call, book, facts):
        """Assert that a call raises NoModel with a refutation of the book and the facts, and return this."""
        with self.assertRaises(NoModel) as caught:
            call(book, facts)
        self.assertIs(type(caught.exception.paper), Refutation)
        self.assertIs(caught.exception.paper.refutes(book, facts), True)
        return caught.exception.paper


def opposite(literal):
    """The literal of the same name and the other sign."""
    return literal[1:] if literal.startswith("-") else "-" + literal


def both(names):
    """All literals of the names, in literal order."""
    return [sign + name for name in names for sign in ("", "-")]


def subsets(names):
    """All sets of the names as tuples, those of turnings in turning order."""
    rows = itertools.product([False, True], repeat=len(names))
    return [tuple(name for name, kept in zip(names, row) if kept) for row in rows]


def says_yes(turned, literal):
    """Tell whether the turning of the names says yes to a literal."""
    return literal.startswith("-") == (literal.removeprefix("-") in turned)


def suits(turned, book):
    """Tell whether the turning of the names suits all clauses of a book."""
    return all(len([part for part in book[number] if says_yes(turned, part)]) <= 1 for number in book)


def suiting(book):
    """The sets of names of a book whose turnings suit it, in turning order."""
    return [turned for turned in subsets(book.names) if suits(turned, book)]


def distances(book):
    """For each pair of literals of a book with a chain between them, its least number of links."""
    links = {
        (one, opposite(other))
        for number in book
        for one in book[number]
        for other in book[number]
        if one != other
    }
    found = {(literal, literal): 0 for literal in both(book.names)}
    for length in range(1, 24):
        edge = [pair for pair, known in found.items() if known == length - 1]
        for start, middle in edge:
            for one, end in links:
                if one == middle:
                    found.setdefault((start, end), length)
    return found


def choices(names):
    """All choices over the names as tuples of literals, in the order of models."""
    return list(itertools.product(*[(name, "-" + name) for name in names]))


def holds(choice, book):
    """Tell whether a choice has a literal of each clause of a book."""
    return all(any(part in choice for part in book[number]) for number in book)


def models_by_hand(book, facts):
    """All models of a book and facts, in the order of models."""
    names = sorted({*book.names, *[name_of(fact) for fact in facts]})
    return [choice for choice in choices(names) if set(facts) <= set(choice) and holds(choice, book)]


def parts_of(paper):
    """The parts of a refutation that have no name."""
    return [paper] if paper.name is None else parts_of(paper.when) + parts_of(paper.unless)


def drawn_clause(draw, names, sizes):
    """A drawn clause over some names with a drawn one of the sizes."""
    chosen = draw.sample(names, min(draw.choice(sizes), len(names)))
    return Clause(*[draw.choice(["", "-"]) + name for name in chosen])


def drawn_books(seed, many, names, clauses, sizes):
    """Books of drawn clauses, always the same ones for a seed; some have gaps in their numbers."""
    draw = random.Random(seed)
    books = []
    for _ in range(many):
        book = Book()
        for _ in range(draw.randint(0, clauses)):
            book += drawn_clause(draw, names, sizes)
            if draw.random() < 0.1:
                book -= book.next_number - 1
        books.append(book)
    return books


def drawn_facts(draw, names, most):
    """A list of facts of different names of these and of two others."""
    names = [*names, "x9", "y9"]
    return [draw.choice(["", "-"]) + name for name in draw.sample(names, draw.randint(0, min(most, len(names))))]


def drawn_halved_books(seed, many):
    """Books with ring names of which no clause has three, many of them with other names as well."""
    draw = random.Random(seed)
    books = []
    while len(books) < many:
        clauses = [drawn_clause(draw, TWELVE[:4], [2]) for _ in range(draw.randint(4, 9))]
        # Of the names w to z each clause has at most one positive literal, and none beside a ring name.
        for _ in range(draw.randint(0, 4)):
            chosen = ["-" + name for name in draw.sample("wxyz", draw.randint(1, 3))]
            more = draw.choice([[chosen.pop()[1:]], [draw.choice(["a", "-b"])], ["c", "-d"], []])
            clauses.append(Clause(*chosen, *more))
        draw.shuffle(clauses)
        book = Book(*clauses)
        if not suiting(book):
            books.append(book)
    return books


def plain_cases(seed):
    """Plain books with turnings that suit them and with facts, always the same ones for a seed."""
    draw = random.Random(seed)
    books = [
        Book(), Book(Clause()), Book(Clause("a")), Book(Clause("a"), Clause("-a")),
        *drawn_books(seed + 1, 60, TWELVE[:4], 6, [1, 2, 2, 3]),
        *drawn_books(seed + 2, 60, TWELVE[:5], 12, [1, 1, 2]),
        *drawn_books(seed + 3, 40, TWELVE[:6], 5, [2, 3, 4]),
    ]
    for book in books:
        for turned in suiting(book)[:2] + suiting(book)[2:][-1:]:
            for facts in ([], drawn_facts(draw, book.names, 2), drawn_facts(draw, book.names, 5)):
                yield book, turned, facts


def state(book):
    """All that can be told of a book."""
    return [(number, str(book[number])) for number in book], book.names, book.next_number, len(book)
