"""Points 53 and 54: the value of a book."""

import itertools

from helper import Case, TWELVE, drawn_books, drawn_halved_books, state
from renamedhorn.books import Book
from renamedhorn.clauses import Clause
from renamedhorn.errors import TooMany
from renamedhorn.mixtures import Mixture
from renamedhorn.shares import Share
from renamedhorn.standings import standing
from renamedhorn.values import GameValue, game_value
from renamedhorn.weights import Weights

MOST = 10 ** 12 - 1


def all_clauses(names, size):
    """All clauses of so many of the names."""
    return [
        Clause(*[sign + name for sign, name in zip(signs, chosen)])
        for chosen in itertools.combinations(names, size)
        for signs in itertools.product(["", "-"], repeat=size)
    ]


class ValueTest(Case):
    def look_at(self, book):
        """Assert that weights and mixture both reach the share, which makes it the value (point 49)."""
        before = state(book)
        told = game_value(book)
        self.assertEqual(state(book), before)
        self.assertIs(type(told), GameValue)
        self.assertEqual(set(vars(told)), {"share", "weights", "mixture"})
        self.assertEqual([type(told.share), type(told.weights), type(told.mixture)], [Share, Weights, Mixture])
        self.assertEqual(tuple(told.weights), book.names)
        self.assertEqual(told.weights.most(book), told.share)
        if len(book):
            self.assertEqual(told.mixture.bound(book), told.share)
        else:
            self.assertEqual((told.share, told.mixture), (Share(0), Mixture()))
        for share in [told.share, *[told.weights[name] for name in told.weights]]:
            self.assertLessEqual(max(share.top, share.bottom), MOST)
        for number in told.mixture:
            self.assertLessEqual(told.mixture[number], 1000000)
        return told.share

    def test_known_by_hand(self):
        for clauses, share in (
            ([], Share(0)),
            ([Clause()], Share(0)),
            ([Clause(), Clause()], Share(0)),
            ([Clause("a")], Share(0)),
            ([Clause("-a")], Share(0)),
            ([Clause("a", "-b", "c", "-d", "e", "-f")], Share(0)),
            ([Clause("a"), Clause("-a")], Share(1, 2)),
            ([Clause("a"), Clause(), Clause("-a")], Share(1, 2)),
            ([Clause("a", "b"), Clause("-a", "-b")], Share(1)),
            ([Clause("a", "b"), Clause("-a")], Share(1, 2)),
            ([Clause("a", "b"), Clause("-a"), Clause("-b")], Share(2, 3)),
            ([Clause("a", "b", "c"), Clause("-a", "-b", "-c")], Share(3, 2)),
            ([Clause("a", "b", "c"), Clause("-a"), Clause("-b"), Clause("-c")], Share(3, 4)),
            ([Clause(*TWELVE[:6]), Clause(*["-" + name for name in TWELVE[:6]])], Share(3)),
            (all_clauses("abc", 2), Share(1)),
            (all_clauses("ab", 2), Share(1)),
            (all_clauses("abc", 3), Share(3, 2)),
        ):
            with self.subTest(clauses=[str(clause) for clause in clauses]):
                self.assertEqual(self.look_at(Book(*clauses)), share)

    def test_drawn_books(self):
        above = set()
        for names in range(1, 7):
            for book in drawn_books(530 + names, 60, TWELVE[:names], 12, [0, 1, 2, 2, 3, 4, 5, 6]):
                share = self.look_at(book)
                self.assertIs(share > 1, standing(book).kind == "barred")
                above.add((share > 1, share == 1, share > 0))
        self.assertEqual(len(above), 4)

    def test_books_of_the_greatest_size(self):
        for sizes in ([2, 3], [3], [4, 5, 6], [2, 3, 4, 5, 6], [6]):
            for book in drawn_books(540 + len(sizes), 12, TWELVE[:6], 24, sizes):
                for number in list(book)[12:]:
                    book -= number
                self.look_at(book)

    def test_halved_books(self):
        for book in drawn_halved_books(541, 20):
            for number in [number for number in book if not set(book[number].names) <= set("abcd")]:
                book -= number
            self.assertEqual(self.look_at(book), Share(1))

    def test_clauses_that_are_equal(self):
        self.assertEqual(self.look_at(Book(*[Clause("a", "b", "c"), Clause("-a", "-b", "-c")] * 6)), Share(3, 2))

    def test_numbers_with_gaps(self):
        book = Book.numbered([(7, Clause("a")), (998, Clause("-a"))])
        self.assertEqual(self.look_at(book), Share(1, 2))
        mixture = game_value(book).mixture
        self.assertEqual(mixture[7], mixture[998])

    def test_a_name_that_no_keyword_can_be(self):
        self.assertEqual(self.look_at(Book(Clause("self", "a"), Clause("-self", "-a"))), Share(1))

    def test_too_many(self):
        six = Clause(*TWELVE[:6])
        self.refused(TooMany, game_value, Book(six, Clause("g")), limit=6)
        self.refused(TooMany, game_value, Book(*[six] * 12, Clause("g")), limit=6)
        self.refused(TooMany, game_value, Book(*[six] * 13), limit=12)
        self.refused(TooMany, game_value, Book(*[Clause()] * 13), limit=12)
        self.assertEqual(self.look_at(Book(*[six] * 12)), Share(0))
