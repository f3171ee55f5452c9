"""Points 50 to 52: sides and standings."""

from helper import (
    Case, TWELVE, both, distances, drawn_books, drawn_halved_books, opposite, says_yes, state, subsets, suiting,
)
from renamedhorn.books import Book
from renamedhorn.clauses import Clause
from renamedhorn.mixtures import Mixture
from renamedhorn.products import Product, all_turnings
from renamedhorn.rings import Ring, first_ring, ring_names
from renamedhorn.shares import Share
from renamedhorn.standings import Standing, sides, standing
from renamedhorn.turnings import Turning
from renamedhorn.weights import Weights

HALF = Share(1, 2)
# Two ring names in four clauses, each with both of them.
PAIRS = [Clause("a", "b"), Clause("a", "-b"), Clause("-a", "b"), Clause("-a", "-b")]
ATTRIBUTES = {"kind", "rings", "sides", "turning", "ring", "weights", "crowded", "mixture"}


def books():
    """Books of all three kinds."""
    return [
        Book(), Book(Clause()), Book(Clause("a"), Clause("-a")), Book(*PAIRS), Book(*PAIRS, Clause("a", "-c", "d")),
        Book(Clause("a", "b", "c"), Clause("-a", "-b", "-c")),
        *drawn_halved_books(50, 40),
        *drawn_books(51, 80, TWELVE[:5], 8, [1, 2, 2, 3, 3]),
        *drawn_books(52, 12, TWELVE[:9], 20, [2, 2, 2, 3]),
        *drawn_books(53, 6, TWELVE, 24, [2, 2, 3, 6]),
    ]


def sides_by_hand(book):
    """The names and the turnings of the sides, straight from the words of point 50."""
    reached = distances(book)
    names = [
        name
        for name in book.names
        if (name, "-" + name) not in reached or ("-" + name, name) not in reached
    ]
    asked = [(one, end) for one, end in reached if one in both(names) and end in both(names)]
    rows = [
        turned
        for turned in subsets(names)
        if all(says_yes(turned, end) for one, end in asked if says_yes(turned, one))
        and not any(says_yes(turned, one) for one, end in asked if end == opposite(one))
    ]
    return tuple(names), rows


class SidesTest(Case):
    def test_against_all_turnings(self):
        kinds = set()
        for book in books():
            before = state(book)
            product = sides(book)
            names, rows = sides_by_hand(book)
            self.assertIs(type(product), Product)
            self.assertEqual(product.names, names)
            self.assertEqual([turning.turned for turning in product.walk()], rows)
            self.assertGreater(product.many, 0)
            self.assertEqual(state(book), before)
            kinds.add((standing(book).kind, product.many > 1))
        self.assertEqual(len(kinds), 6)

    def test_plain_books(self):
        for book in books():
            if not ring_names(book):
                self.assertEqual(sides(book), all_turnings(book))
                self.assertEqual(len(suiting(book)), sides(book).many)

    def test_books_without_other_names(self):
        self.assertEqual(sides(Book()), Product.free())
        self.assertEqual(sides(Book(Clause())), Product.free())
        self.assertEqual(sides(Book(*PAIRS)), Product.free())
        self.assertEqual(sides(Book(Clause("a", "b", "c"), Clause("-a", "-b", "-c"))), Product.free())

    def test_chains_through_ring_names(self):
        book = Book(*PAIRS, Clause("x", "a"), Clause("-a", "y"))
        product = sides(book)
        self.assertEqual(product.names, ("x", "y"))
        self.assertEqual([turning.turned for turning in product.walk()], [("x", "y")])
        book = Book(*PAIRS, Clause("x", "y"))
        self.assertEqual([turning.turned for turning in sides(book).walk()], [("y",), ("x",), ("x", "y")])


class StandingTest(Case):
    def look_at(self, book):
        """Assert of the standing of a book all that point 51 says."""
        before = state(book)
        told = standing(book)
        self.assertEqual(state(book), before)
        self.assertIs(type(told), Standing)
        self.assertEqual(set(vars(told)), ATTRIBUTES)
        rings = ring_names(book)
        self.assertEqual(told.rings, tuple(rings))
        self.assertIs(type(told.rings), tuple)
        self.assertEqual(told.sides, sides(book))
        crowded = [number for number in book if len(set(book[number].names) & set(rings)) >= 3]
        self.assertEqual(told.crowded, crowded[0] if crowded else None)
        self.assertEqual(told.kind, "plain" if not rings else "barred" if crowded else "halved")
        self.look_at_ring(book, told)
        self.look_at_weights(book, told)
        self.look_at_mixture(book, told)
        return told.kind

    def look_at_ring(self, book, told):
        if told.kind == "plain":
            self.assertIsNone(told.ring)
            self.assertEqual(told.turning, told.sides[0])
            self.assertTrue(all(told.turning.suits(book[number]) for number in book))
        else:
            self.assertIsNone(told.turning)
            self.assertIs(type(told.ring), Ring)
            self.assertIs(told.ring.bars(book), True)
            self.assertEqual(vars(told.ring), vars(first_ring(book)))

    def look_at_weights(self, book, told):
        if told.kind == "barred":
            self.assertIsNone(told.weights)
            return
        first = told.sides[0]
        expected = {name: HALF if name in told.rings else Share(int(name not in first)) for name in book.names}
        self.assertIs(type(told.weights), Weights)
        self.assertEqual({name: told.weights[name] for name in told.weights}, expected)
        self.assertIs(told.weights.fits(book), True)

    def look_at_mixture(self, book, told):
        if told.kind != "barred":
            self.assertIsNone(told.mixture)
            return
        self.assertIs(type(told.mixture), Mixture)
        self.assertIs(told.mixture.bars(book), True)
        self.assertLessEqual(told.mixture.total, 1000)

    def test_books(self):
        kinds = [self.look_at(book) for book in books()]
        for kind in ("plain", "halved", "barred"):
            self.assertGreater(kinds.count(kind), 10)

    def test_many_barred_books(self):
        kinds = []
        for seed, (names, clauses) in enumerate([(3, 9), (4, 9), (6, 14), (8, 20), (10, 24), (12, 24)]):
            for book in drawn_books(600 + seed, 25, TWELVE[:names], clauses, [2, 2, 3, 3, 4, 6]):
                kinds.append(self.look_at(book))
        self.assertGreater(kinds.count("barred"), 60)

    def test_long_chains(self):
        steps = [Clause(one, "-" + other) for one, other in zip(TWELVE, TWELVE[1:])]
        book = Book(*steps, Clause("l", "a"), Clause("-a", "-l"), Clause("a", "-f", "-l"))
        self.look_at(book)
        book = Book(*steps, Clause("a", "b"), Clause("-k", "-l"), Clause("f", "g", "h"))
        self.look_at(book)

    def test_the_book_without_clauses(self):
        told = standing(Book())
        self.assertEqual((told.kind, told.rings, told.crowded, told.ring, told.mixture), ("plain", (), None, None, None))
        self.assertEqual((told.turning, told.weights), (Turning(), Weights()))

    def test_the_first_crowded_clause(self):
        book = Book.numbered([
            (3, Clause("a", "b", "x")), (5, Clause("a", "-b", "x")), (7, Clause("-a", "b")), (8, Clause("-a", "-b")),
            (20, Clause("c", "-a", "-b")), (21, Clause("-c", "a")), (30, Clause("x", "c", "b")),
        ])
        told = standing(book)
        self.assertEqual((told.kind, told.rings, told.crowded), ("barred", ("a", "b", "c"), 20))

    def test_a_name_that_no_keyword_can_be(self):
        book = Book(Clause("self", "a"), Clause("-self", "a"))
        self.assertIs(standing(book).weights.fits(book), True)
        self.assertEqual(list(standing(book).weights), ["a", "self"])

    def test_every_weights_that_fit_halve_the_ring_names(self):
        shares = [Share(at, 4) for at in range(5)]
        for book in drawn_books(53, 60, ["a", "b", "c"], 6, [2, 2, 3]):
            told = standing(book)
            for one in shares:
                for two in shares:
                    for three in shares:
                        weights = Weights(a=one, b=two, c=three)
                        if weights.fits(book):
                            self.assertNotEqual(told.kind, "barred")
                            self.assertTrue(all(weights[name] == HALF for name in told.rings))
