"""Points 17 to 22: books."""

import operator

from helper import Case, state
from renamedhorn.books import Book
from renamedhorn.clauses import Clause
from renamedhorn.errors import BadNumber, NoClause, TooMany
from renamedhorn.turnings import Turning

SIX = Clause("a", "b", "c", "d", "e", "f")
OTHER_SIX = Clause("g", "h", "i", "j", "k", "l")
NO_NUMBERS = [0, -1, -999, 2, 7, 1000, 10 ** 30]


def gapped():
    """A book with the clauses 2, 4 and 5, whose next number is 7."""
    book = Book(Clause("a"), Clause("a", "-b"), Clause("z"), Clause("-c"), Clause("a", "-b"), Clause("y"))
    for number in (1, 3, 6):
        book.drop(number)
    return book


class BookCase(Case):
    def refused_and_same(self, book, error, *args, **kept):
        """Assert that a call is refused and leaves the book as it was."""
        before = state(book)
        clauses = {number: book[number] for number in book}
        self.refused(error, *args, **kept)
        self.assertEqual(state(book), before)
        for number in book:
            self.assertIs(book[number], clauses[number])


class MakingTest(BookCase):
    def test_numbers_from_one(self):
        book = Book(Clause("b"), Clause("-a", "c"), Clause("b"))
        self.assertEqual(state(book), ([(1, "b"), (2, "-a | c"), (3, "b")], ("a", "b", "c"), 4, 3))

    def test_empty(self):
        self.assertEqual(state(Book()), ([], (), 1, 0))

    def test_limits(self):
        self.assertEqual((Book.LIMIT, Book.NAMES, Book.NUMBERS), (24, 12, 999))

    def test_twenty_four_clauses(self):
        self.assertEqual(len(Book(*[Clause("a")] * 24)), 24)
        self.refused(TooMany, Book, *[Clause("a")] * 25, limit=24)

    def test_twelve_names(self):
        self.assertEqual(len(Book(SIX, OTHER_SIX).names), 12)
        self.refused(TooMany, Book, SIX, OTHER_SIX, Clause("m"), limit=12)

    def test_first_refusal(self):
        self.refused(TooMany, Book, SIX, OTHER_SIX, Clause("m"), *[Clause("a")] * 30, limit=12)
        self.refused(TooMany, Book, *[SIX] * 12, *[OTHER_SIX] * 12, Clause("m"), limit=24)

    def test_iteration_is_not_disturbed(self):
        book = Book(Clause("a"), Clause("b"))
        seen = []
        for number in book:
            seen.append(number)
            book.put(Clause("c"))
            book.drop(number)
        self.assertEqual(seen, [1, 2])
        self.assertEqual(list(book), [3, 4])


class PutTest(BookCase):
    def test_put_gives_the_next_number(self):
        book = Book()
        self.assertEqual(book.put(Clause("a")), 1)
        self.assertEqual(book.put(Clause("-b", "a")), 2)
        self.assertEqual(book.put(Clause()), 3)
        self.assertEqual(state(book), ([(1, "a"), (2, "a | -b"), (3, "0")], ("a", "b"), 4, 3))

    def test_numbers_are_not_given_again(self):
        book = Book(Clause("a"), Clause("b"))
        book.drop(2)
        self.assertEqual(book.next_number, 3)
        self.assertEqual(book.put(Clause("c")), 3)
        book.drop(1)
        book.drop(3)
        self.assertEqual(state(book), ([], (), 4, 0))
        self.assertEqual(book.put(Clause("d")), 4)

    def test_too_many_clauses(self):
        book = Book(*[Clause("a")] * 24)
        self.refused_and_same(book, TooMany, book.put, Clause("b"), limit=24)
        self.refused_and_same(book, TooMany, operator.iadd, book, Clause("b"), limit=24)
        book.drop(5)
        self.assertEqual(book.put(Clause("b")), 25)
        self.refused_and_same(book, TooMany, book.put, Clause("b"), limit=24)

    def test_too_many_clauses_go_before_too_many_names(self):
        book = Book(*[SIX] * 12, *[OTHER_SIX] * 12)
        self.refused_and_same(book, TooMany, book.put, Clause("m"), limit=24)

    def test_too_many_names(self):
        book = Book(SIX, OTHER_SIX)
        self.refused_and_same(book, TooMany, book.put, Clause("a", "m"), limit=12)
        self.refused_and_same(book, TooMany, operator.iadd, book, Clause("m"), limit=12)
        self.assertEqual(book.put(Clause("a", "-l")), 3)
        book = Book(SIX, Clause("g", "h", "i", "j", "k"))
        self.assertEqual(book.put(Clause("m")), 3)
        self.assertEqual(len(book.names), 12)

    def test_too_many_numbers(self):
        book = Book.numbered([(998, Clause("a"))])
        self.assertEqual(book.put(Clause("b")), 999)
        self.assertEqual(book.next_number, 1000)
        self.refused_and_same(book, TooMany, book.put, Clause("c"), limit=999)
        self.refused_and_same(book, TooMany, operator.iadd, book, Clause("c"), limit=999)
        book.drop(999)
        self.refused_and_same(book, TooMany, book.put, Clause("c"), limit=999)

    def test_too_many_numbers_come_last(self):
        book = Book.numbered([(1, SIX), (999, OTHER_SIX)])
        self.refused_and_same(book, TooMany, book.put, Clause("m"), limit=12)
        book = Book.numbered([(number, Clause("a")) for number in range(976, 1000)])
        self.refused_and_same(book, TooMany, book.put, Clause("a"), limit=24)

    def test_all_numbers_are_given(self):
        book = Book()
        for number in range(1, 1000):
            self.assertEqual(book.put(Clause("a")), number)
            if number > 20:
                book.drop(number - 20)
        self.assertEqual(list(book), list(range(980, 1000)))
        self.refused_and_same(book, TooMany, book.put, Clause("a"), limit=999)


class DropTest(BookCase):
    def test_index_and_drop(self):
        first, second = Clause("a"), Clause("b")
        book = Book(first, second)
        self.assertIs(book[1], first)
        self.assertIs(book.drop(1), first)
        self.assertEqual(state(book), ([(2, "b")], ("b",), 3, 1))
        self.assertIs(book[2], second)

    def test_no_clause(self):
        book = Book(Clause("a"), Clause("b"))
        book.drop(2)
        for number in NO_NUMBERS:
            self.refused_and_same(book, NoClause, operator.getitem, book, number, number=number)
            self.refused_and_same(book, NoClause, book.drop, number, number=number)
            self.refused_and_same(book, NoClause, operator.isub, book, number, number=number)
            self.refused_and_same(book, NoClause, operator.setitem, book, number, Clause("c"), number=number)

    def test_dropped_numbers_are_no_clauses_also_after_a_put(self):
        book = gapped()
        book.put(Clause("d"))
        for number in (1, 3, 6, 8):
            self.refused_and_same(book, NoClause, book.drop, number, number=number)

    def test_in_place_forms_change_the_one_book(self):
        book = twin = Book(Clause("a"))
        book += Clause("b")
        self.assertIs(book, twin)
        book -= 1
        self.assertIs(book, twin)
        self.assertEqual(state(twin), ([(2, "b")], ("b",), 3, 1))


class ReplacingTest(BookCase):
    def test_replacing_keeps_the_number(self):
        book = Book(Clause("a"), Clause("b"), Clause("c"))
        book[2] = Clause("-d", "a")
        self.assertEqual(state(book), ([(1, "a"), (2, "a | -d"), (3, "c")], ("a", "c", "d"), 4, 3))

    def test_too_many_names_afterwards(self):
        book = Book(SIX, Clause("g", "h", "i", "j", "k"), Clause("l"))
        self.refused_and_same(book, TooMany, operator.setitem, book, 3, Clause("l", "m"), limit=12)
        book[3] = Clause("m")
        self.assertEqual(len(book.names), 12)
        book[1] = Clause("x", "y", "z")
        self.assertEqual(book.names, ("g", "h", "i", "j", "k", "m", "x", "y", "z"))

    def test_no_clause_goes_before_too_many(self):
        book = Book(SIX, OTHER_SIX)
        self.refused_and_same(book, NoClause, operator.setitem, book, 3, Clause("m"), number=3)

    def test_a_full_book_can_be_changed(self):
        book = Book.numbered([(number, Clause("a")) for number in range(976, 1000)])
        book[999] = Clause("b")
        self.assertEqual((str(book[999]), book.next_number, len(book)), ("b", 1000, 24))


class ReadingTest(BookCase):
    def test_iteration_ascends(self):
        book = gapped()
        self.assertEqual(list(book), [2, 4, 5])
        book[2] = Clause("x")
        book += Clause("w")
        self.assertEqual(list(book), [2, 4, 5, 7])
        self.assertEqual(len(book), 4)

    def test_in(self):
        book = gapped()
        for number in (2, 4, 5):
            self.assertIs(number in book, True)
        for other in (0, 1, 3, 6, 7, -2, 1000, "2", None, [], {}, (2,), Clause("a"), 2.5):
            with self.subTest(other=other):
                self.assertIs(other in book, False)
        self.assertIs(True in Book(Clause("a")), False)

    def test_names(self):
        self.assertEqual(Book(Clause("c", "-a1"), Clause("-c", "a"), Clause()).names, ("a", "a1", "c"))

    def test_equal(self):
        book = gapped()
        same = Book.numbered([(2, Clause("-b", "a")), (4, Clause("-c")), (5, Clause("a", "-b"))])
        self.assertNotEqual(book.next_number, same.next_number)
        self.assertIs(book == same, True)
        self.assertIs(book != same, False)
        self.assertIs(book == book, True)
        book.put(Clause("a"))
        self.assertIs(book == same, False)

    def test_not_equal(self):
        book = Book(Clause("a"), Clause("b"))
        self.assertIs(book == Book(Clause("b"), Clause("a")), False)
        self.assertIs(book == Book(Clause("a")), False)
        self.assertIs(book == Book.numbered([(1, Clause("a")), (3, Clause("b"))]), False)
        for other in (None, 0, "", [Clause("a"), Clause("b")], {1: Clause("a"), 2: Clause("b")}, Clause("a")):
            self.assertIs(book == other, False)
            self.assertIs(book != other, True)

    def test_copy(self):
        book = gapped()
        before = state(book)
        twin = book.copy()
        self.assertIsNot(twin, book)
        self.assertIs(twin == book, True)
        self.assertEqual(state(twin), before)
        twin += Clause("d")
        twin -= 2
        twin[4] = Clause("e")
        twin ^= Turning("a")
        self.assertEqual(state(book), before)
        after = state(twin)
        book += Clause("f")
        book -= 5
        book[2] = Clause()
        self.assertEqual(state(twin), after)


class SumTest(BookCase):
    def test_sum_is_numbered_from_one(self):
        one, other = gapped(), Book(Clause("d"), Clause("-a"))
        other.drop(1)
        before = state(one), state(other)
        both = one + other
        self.assertEqual(state(both), ([(1, "a | -b"), (2, "-c"), (3, "a | -b"), (4, "-a")], ("a", "b", "c"), 5, 4))
        self.assertEqual((state(one), state(other)), before)
        both.drop(1)
        self.assertEqual((state(one), state(other)), before)

    def test_sum_with_itself(self):
        book = gapped()
        before = state(book)
        self.assertEqual([str((book + book)[number]) for number in range(1, 7)], ["a | -b", "-c", "a | -b"] * 2)
        self.assertEqual(state(book), before)

    def test_sums_with_the_empty_book(self):
        self.assertEqual(state(Book() + Book()), ([], (), 1, 0))
        self.assertEqual(state(Book() + gapped()), state(gapped() + Book()))

    def test_refusals(self):
        twelve, thirteen = Book(*[SIX] * 12), Book(*[OTHER_SIX] * 13)
        self.assertEqual(len(twelve + twelve), 24)
        self.refused_and_same(twelve, TooMany, operator.add, twelve, thirteen, limit=24)
        self.refused_and_same(thirteen, TooMany, operator.add, thirteen, thirteen, limit=24)
        self.refused_and_same(twelve, TooMany, operator.add, twelve, Book(Clause("g"), OTHER_SIX, Clause("m")), limit=12)
        self.refused(TooMany, operator.add, twelve, Book(OTHER_SIX, Clause("m"), *[Clause("g")] * 20), limit=12)


class TurnedTest(BookCase):
    def test_turned_book_keeps_the_numbers(self):
        book = gapped()
        before = state(book)
        turned = book ^ Turning("b", "c", "q")
        self.assertEqual(state(turned), ([(2, "a | b"), (4, "c"), (5, "a | b")], ("a", "b", "c"), 7, 3))
        self.assertEqual(state(book), before)
        turned.put(Clause("d"))
        self.assertEqual(state(book), before)

    def test_turned_twice(self):
        book = gapped()
        self.assertEqual(state(book ^ Turning("a", "c") ^ Turning("a", "c")), state(book))

    def test_next_number_after_the_last_clause_is_dropped(self):
        book = Book(Clause("a"))
        book.drop(1)
        self.assertEqual((book ^ Turning("a")).next_number, 2)
        self.assertEqual((book ^ Turning("a")).put(Clause("b")), 2)
        self.assertEqual(state(Book() ^ Turning("a")), ([], (), 1, 0))

    def test_in_place(self):
        book = twin = gapped()
        book ^= Turning("a")
        self.assertIs(book, twin)
        self.assertEqual(state(twin), ([(2, "-a | -b"), (4, "-c"), (5, "-a | -b")], ("a", "b", "c"), 7, 3))


class NumberedTest(BookCase):
    def test_pairs(self):
        book = Book.numbered([(3, Clause("b")), (17, Clause("a")), (999, Clause("b"))])
        self.assertEqual(state(book), ([(3, "b"), (17, "a"), (999, "b")], ("a", "b"), 1000, 3))
        self.assertEqual(state(Book.numbered([(1, Clause("a"))])), ([(1, "a")], ("a",), 2, 1))

    def test_empty_list(self):
        self.assertEqual(state(Book.numbered([])), ([], (), 1, 0))

    def test_the_list_is_not_kept(self):
        pairs = [(1, Clause("a"))]
        book = Book.numbered(pairs)
        pairs.append((2, Clause("b")))
        pairs[0] = (1, Clause("c"))
        self.assertEqual(state(book), ([(1, "a")], ("a",), 2, 1))
        book.put(Clause("d"))
        self.assertEqual(len(pairs), 2)

    def test_bad_number(self):
        for number in (0, -1, 1000, 5000):
            self.refused(BadNumber, Book.numbered, [(number, Clause("a"))], number=number)
            self.refused(BadNumber, Book.numbered, [(4, Clause("b")), (number, Clause("a"))], number=number)
        for number in (1, 3, 4):
            self.refused(BadNumber, Book.numbered, [(4, Clause("b")), (number, Clause("a"))], number=number)

    def test_the_first_refused_pair(self):
        rows = [(2, SIX), (4, OTHER_SIX)]
        self.refused(TooMany, Book.numbered, [*rows, (5, Clause("m")), (5, SIX)], limit=12)
        self.refused(BadNumber, Book.numbered, [*rows, (4, Clause("m")), (5, Clause("m"))], number=4)
        self.refused(BadNumber, Book.numbered, [*rows, (1, SIX), (5, Clause("m"))], number=1)

    def test_too_many_clauses(self):
        pairs = [(number, [SIX, OTHER_SIX][number % 2]) for number in range(10, 34)]
        self.assertEqual(len(Book.numbered(pairs)), 24)
        self.refused(TooMany, Book.numbered, [*pairs, (40, SIX)], limit=24)
        self.refused(TooMany, Book.numbered, [*pairs, (40, Clause("m"))], limit=24)
        self.refused(BadNumber, Book.numbered, [*pairs, (33, SIX)], number=33)
