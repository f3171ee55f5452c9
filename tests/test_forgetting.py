"""Points 86 and 87: forgetting a name."""

import itertools
import random

from helper import Case, NO_NAMES, TWELVE, choices, drawn_books, drawn_clause, holds, opposite, state, suiting, suits
from renamedhorn.books import Book
from renamedhorn.clauses import Clause
from renamedhorn.errors import BadName, TooMany
from renamedhorn.forgetting import forget
from renamedhorn.shares import Share
from renamedhorn.standings import standing
from renamedhorn.values import game_value
from renamedhorn.weights import Weights


def forgotten_by_hand(book, name):
    """The clauses behind forgetting a name as sets of literals in their order, or the limit that is passed."""
    clauses = [set(book[number]) for number in book]
    taken = [clause for clause in clauses if not {name, opposite(name)} & clause]
    for one in clauses:
        for other in clauses:
            if name in one and opposite(name) in other:
                joined = (one - {name}) | (other - {opposite(name)})
                if not any(opposite(literal) in joined for literal in joined):
                    taken.append(joined)
    if any(len(clause) > 6 for clause in taken):
        return 6
    left = [
        clause
        for at, clause in enumerate(taken)
        if clause not in taken[:at] and not any(other < clause for other in taken)
    ]
    return 24 if len(left) > 24 else left


def rows_of(book):
    """The clauses of a book as sets of literals, in the order of their numbers."""
    return [set(book[number]) for number in book]


class ForgetTest(Case):
    def look_at(self, book, name):
        """Assert what point 86 says, and return the limit that is passed or None."""
        before, expected = state(book), forgotten_by_hand(book, name)
        if isinstance(expected, int):
            self.refused(TooMany, forget, book, name, limit=expected)
        else:
            found = forget(book, name)
            self.assertIs(type(found), Book)
            self.assertEqual(rows_of(found), expected)
            self.assertEqual(list(found), list(range(1, len(expected) + 1)))
            self.assertEqual(found.next_number, len(expected) + 1)
            self.assertNotIn(name, found.names)
        self.assertEqual(state(book), before)
        return expected if isinstance(expected, int) else None

    def test_against_the_definition(self):
        books = [
            Book(), Book(Clause()), Book(Clause(), Clause("a")), Book(Clause("a"), Clause("-a")),
            *drawn_books(860, 60, TWELVE[:3], 8, [0, 1, 2, 2, 3]),
            *drawn_books(861, 60, TWELVE[:4], 12, [1, 2, 2, 3]),
            *drawn_books(862, 40, TWELVE[:6], 24, [2, 3, 4]),
            *drawn_books(863, 40, TWELVE[:9], 24, [3, 4, 5]),
            *drawn_books(864, 20, TWELVE, 24, [4, 5, 6]),
        ]
        draw = random.Random(865)
        for many in [11, 12, 13, 14, 15] * 5:
            pairs = [(draw.choice(["a", "-a"]), drawn_clause(draw, TWELVE[1:], [2, 3])) for _ in range(many)]
            books.append(Book(*[clause | Clause(sign) for sign, clause in pairs]))
        found = [self.look_at(book, name) for book in books for name in [*book.names, "z9"]]
        for limit in (None, 6, 24):
            self.assertGreater(found.count(limit), 5)

    def test_the_example_of_the_document(self):
        book = Book(Clause("a", "b"), Clause("-a", "c"), Clause("b", "c", "d"))
        self.assertEqual(forget(book, "a"), Book(Clause("b", "c")))

    def test_the_order_and_the_numbers(self):
        book = Book(
            Clause("-a", "x"), Clause("a", "b"), Clause("d"), Clause("a", "c"), Clause("-a", "-b", "y"), Clause("e", "f"),
        )
        book -= 3
        self.assertEqual(rows_of(forget(book, "a")), [{"e", "f"}, {"b", "x"}, {"c", "x"}, {"c", "-b", "y"}])

    def test_one_sign_or_none(self):
        book = Book(Clause("a", "b"), Clause("c"), Clause("a"), Clause("c", "d"), Clause("c"), Clause("e"))
        self.assertEqual(rows_of(forget(book, "a")), [{"c"}, {"e"}])
        self.assertEqual(rows_of(forget(book, "b")), [{"c"}, {"a"}, {"e"}])
        self.assertEqual(rows_of(forget(book, "z")), [{"c"}, {"a"}, {"e"}])

    def test_joined_clauses_that_are_contained_or_equal(self):
        book = Book(Clause("b", "c", "d"), Clause("b"), Clause("a", "b"), Clause("-a", "c"), Clause("-a", "b"))
        self.assertEqual(rows_of(forget(book, "a")), [{"b"}])
        book = Book(Clause("a", "b"), Clause("a", "b"), Clause("-a", "c"), Clause("-a", "c"))
        self.assertEqual(rows_of(forget(book, "a")), [{"b", "c"}])
        self.assertEqual(rows_of(forget(Book(Clause("b"), Clause("a"), Clause("-a"), Clause("c")), "a")), [set()])

    def test_bad_names(self):
        for text in NO_NAMES:
            for book in (Book(), Book(Clause("a")), Book(Clause(*"abcdef"), Clause("-a", *"ghijk"))):
                self.refused(BadName, forget, book, text, text=text)

    def test_too_many_literals(self):
        self.assertEqual(self.look_at(Book(Clause("a", *"bcd"), Clause("-a", *"efgh")), "a"), 6)
        self.assertIsNone(self.look_at(Book(Clause("a", *"bcd"), Clause("-a", *"efg")), "a"))
        self.assertIsNone(self.look_at(Book(Clause("a", *"bcdx"), Clause("-a", *"efg", "-x")), "a"))
        # Also a joined clause that would be left out counts.
        self.assertEqual(self.look_at(Book(Clause("b"), Clause("a", *"bcd"), Clause("-a", *"efgh")), "a"), 6)

    def test_too_many_clauses(self):
        ones = [Clause("a", name) for name in "bcdef"]
        others = [Clause("-a", name) for name in "ghijk"]
        self.assertEqual(self.look_at(Book(*ones, *others), "a"), 24)
        self.assertIsNone(self.look_at(Book(*ones[1:], *others), "a"))
        self.assertIsNone(self.look_at(Book(*ones, *others, Clause("b"), Clause("c")), "a"))
        many = Book(*ones, *others, Clause("a", *"bcdef"), Clause("-a", *"ghijk"))
        self.assertEqual(self.look_at(many, "a"), 6)


class KeptTest(Case):
    def test_choices_of_the_other_names(self):
        for book in drawn_books(870, 60, TWELVE[:5], 8, [1, 2, 2, 3]):
            for name in book.names:
                left = forget(book, name)
                names = [*[other for other in book.names if other != name], "y"]
                for choice in choices(names):
                    kept = holds([*choice, name], book) or holds([*choice, "-" + name], book)
                    self.assertIs(holds(choice, left), kept)

    def test_turnings_and_weights_that_suit(self):
        draw = random.Random(87)
        for book in drawn_books(871, 80, TWELVE[:5], 6, [1, 2, 2, 3]):
            for name in [*book.names, "z"]:
                left = forget(book, name)
                for turned in suiting(book):
                    self.assertTrue(suits(turned, left))
                told = standing(book).weights
                shares = {other: Share(draw.randint(0, 4), 4) for other in book.names}
                for weights in [Weights(**shares), *([] if told is None else [told])]:
                    if weights.fits(book):
                        self.assertTrue(weights.fits(left))

    def test_values(self):
        for book in drawn_books(872, 40, TWELVE[:5], 8, [1, 2, 2, 3]):
            value = game_value(book).share
            most = max(value, 2 * value - 1, key=lambda share: (share.top * 10 ** 6) // share.bottom)
            for name in book.names:
                left = forget(book, name)
                if len(left) <= 12:
                    self.assertTrue(game_value(left).share <= most)

    def test_all_names_in_any_order(self):
        draw = random.Random(873)
        seen = []
        for book in drawn_books(874, 60, TWELVE[:4], 12, [1, 2, 2, 3]):
            orders = list(itertools.permutations(book.names))
            for names in draw.sample(orders, min(4, len(orders))):
                left = book
                for name in names:
                    left = forget(left, name)
                has_model = any(holds(choice, book) for choice in choices(book.names))
                seen.append(has_model)
                # A book without names at the start keeps its clauses, so there is one name more to forget.
                self.assertEqual(forget(left, "z"), Book() if has_model else Book(Clause()))
                if names:
                    self.assertEqual(left, Book() if has_model else Book(Clause()))
        self.assertGreater(seen.count(True), 10)
        self.assertGreater(seen.count(False), 10)

    def test_the_clauses_may_have_the_forgotten_name_nowhere_else(self):
        draw = random.Random(875)
        book = Book(*[drawn_clause(draw, TWELVE[:5], [2, 3]) for _ in range(10)])
        left = forget(forget(book, "a"), "a")
        self.assertEqual(left, forget(book, "a"))
