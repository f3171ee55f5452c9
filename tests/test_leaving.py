"""Points 68 and 69: leaving clauses out."""

import itertools

from helper import Case, TWELVE, drawn_books, drawn_halved_books, state, subsets, suiting, suits
from renamedhorn.books import Book
from renamedhorn.clauses import Clause
from renamedhorn.errors import TooMany
from renamedhorn.leaving import Leaving, least_left, left_out
from renamedhorn.turnings import Turning

SIGNS = list(itertools.product(["", "-"], repeat=3))
CUBE = [Clause(*[sign + name for sign, name in zip(signs, "abc")]) for signs in SIGNS]


def part_of(book, numbers):
    """The book of the clauses of a book at some numbers."""
    return Book(*[book[number] for number in numbers])


def left_out_by_hand(book):
    """The numbers that point 68 leaves out."""
    kept = []
    for number in book:
        if suiting(part_of(book, [*kept, number])):
            kept.append(number)
    return tuple(number for number in book if number not in kept)


def unsuited_by_hand(book, turned):
    """The numbers of the clauses that the turning of the names does not suit."""
    return tuple(number for number in book if not suits(turned, part_of(book, [number])))


def cases():
    """Books that are plain and books that are not."""
    return [
        Book(), Book(Clause()), Book(Clause("a")), Book(*CUBE), Book(Clause("a", "b", "c"), *CUBE[6:]),
        *drawn_books(680, 40, TWELVE[:3], 8, [1, 2, 2, 3]),
        *drawn_books(681, 30, TWELVE[:5], 14, [2, 2, 3, 4]),
        *drawn_books(684, 10, TWELVE[:4], 24, [2, 3, 3]),
        *drawn_halved_books(682, 20),
    ]


class LeftOutTest(Case):
    def test_against_the_definition(self):
        lengths = []
        for book in cases():
            before = state(book)
            found = left_out(book)
            self.assertIs(type(found), tuple)
            self.assertEqual(found, left_out_by_hand(book))
            self.assertEqual(state(book), before)
            self.assertIs(bool(found), not suiting(book))
            lengths.append(len(found))
        self.assertEqual(set(range(4)) - set(lengths), set())

    def test_known_by_hand(self):
        book = Book(*CUBE[2:], Clause("a", "b"), Clause("a", "-b"), Clause("b", "-a"), Clause("-a", "-b"), Clause())
        book -= 1
        self.assertEqual(left_out(book), left_out_by_hand(book))
        square = [Clause("a", "b"), Clause("a", "-b"), Clause("-a", "b"), Clause("a", "b"), Clause("-a", "-b")]
        self.assertEqual(left_out(Book(*square)), (5,))
        self.assertEqual(left_out(Book(*square[4:], *square[:4])), (4,))
        self.assertEqual(left_out(Book(Clause("a", "b", "c"), Clause("-a", "-b", "-c"), Clause("a", "b"))), (2,))

    def test_twelve_names_and_twenty_four_clauses(self):
        for book in drawn_books(683, 5, TWELVE, 24, [2, 3, 4, 5, 6]):
            found = left_out(book)
            self.assertTrue(suiting(part_of(book, [number for number in book if number not in found])))


class LeastLeftTest(Case):
    def look_at(self, book):
        """Assert all that point 69 says, and return how many clauses are left."""
        before = state(book)
        found = least_left(book)
        self.assertIs(type(found), Leaving)
        self.assertEqual(set(vars(found)), {"left", "turning", "tree"})
        fewest = min(len(unsuited_by_hand(book, turned)) for turned in subsets(book.names))
        first = [turned for turned in subsets(book.names) if len(unsuited_by_hand(book, turned)) == fewest][0]
        self.assertEqual(found.turning, Turning(*first))
        self.assertEqual(found.left, unsuited_by_hand(book, first))
        self.assertIs(type(found.left), tuple)
        self.assertLessEqual(self.parts_of_tree(book, found.tree, [], fewest), 511)
        self.assertEqual(state(book), before)
        return fewest

    def parts_of_tree(self, book, tree, path, least):
        """Assert that a tree behind some splits is as point 69 says, and return its leaves and splits."""
        self.assertIs(type(tree), tuple)
        if tree[0] == "leaf":
            _, numbers = tree
            self.assertIs(type(numbers), tuple)
            self.assertEqual(numbers, tuple(sorted(set(numbers))))
            self.assertGreaterEqual(len(numbers), least)
            for number in numbers:
                self.assertGreaterEqual(len([literal for literal in book[number] if literal in path]), 2)
            return 1
        word, name, kept, turned = tree
        self.assertEqual(word, "split")
        self.assertIn(name, book.names)
        self.assertNotIn(name, [literal.removeprefix("-") for literal in path])
        many = self.parts_of_tree(book, kept, [*path, name], least)
        return 1 + many + self.parts_of_tree(book, turned, [*path, "-" + name], least)

    def test_against_all_turnings(self):
        found = [self.look_at(book) for book in cases()]
        self.assertEqual(set(range(4)) - set(found), set())

    def test_books_without_names(self):
        for book in (Book(), Book(Clause(), Clause())):
            found = least_left(book)
            self.assertEqual((found.left, found.turning, found.tree), ((), Turning(), ("leaf", ())))

    def test_known_by_hand(self):
        found = least_left(Book(Clause("a", "b"), Clause("a", "-b"), Clause("-a", "b"), Clause("-a", "-b")))
        self.assertEqual((found.left, found.turning), ((1,), Turning()))
        found = least_left(Book(Clause("a", "b"), Clause("a", "b"), Clause("-a", "-b"), Clause("a", "-b"), Clause("-a", "b")))
        self.assertEqual((found.left, found.turning), ((4,), Turning("b")))
        self.assertEqual(least_left(Book(Clause("a", "b"))).turning, Turning("b"))

    def test_eight_names(self):
        for book in drawn_books(690, 6, TWELVE[:8], 24, [2, 3, 4, 5]):
            if len(book.names) == 8:
                self.look_at(book)
        deep = Book(*[Clause(one, sign + other) for one, other in ("ab", "cd", "ef", "gh") for sign in ("", "-")],
                    *[Clause("-" + one, sign + other) for one, other in ("ab", "cd", "ef", "gh") for sign in ("", "-")])
        self.assertEqual(self.look_at(deep), 4)

    def test_more_than_eight_names(self):
        for names in (TWELVE[:9], TWELVE):
            book = Book(Clause(*names[:5]), Clause(*names[5:9]), *[Clause(name) for name in names[9:]])
            self.refused(TooMany, least_left, book, limit=8)
            self.assertEqual(left_out(book), ())
