"""Points 46 to 49: mixtures."""

import operator
import random

from helper import Case, NO_LITERALS, TWELVE, both, drawn_books, opposite
from renamedhorn.books import Book
from renamedhorn.clauses import Clause
from renamedhorn.errors import BadCount, BadLiteral, BadNumber, NoClause, ZeroBelow
from renamedhorn.mixtures import Mixture
from renamedhorn.shares import Share
from renamedhorn.weights import Weights

NO_NUMBERS = [0, -1, 1000, 10 ** 20]
MOST = 1000000


def counts_of(mixture):
    """The numbers and the counts, in the order in which the mixture is iterated over."""
    return [(number, mixture[number]) for number in mixture]


def mixed(**counts):
    """The mixture of counts at numbers, as in mixed(_3=5)."""
    mixture = Mixture()
    for word, count in counts.items():
        mixture[int(word[1:])] = count
    return mixture


def drawn_mixture(seed, book):
    """A mixture of drawn clauses of a book that has clauses."""
    draw = random.Random(seed)
    return Mixture(*[draw.choice(list(book)) for _ in range(draw.randint(1, 12))])


class MixtureCase(Case):
    def refused_and_same(self, mixture, error, *args, **kept):
        """Assert that a call is refused and leaves the mixture as it was."""
        before = counts_of(mixture)
        self.refused(error, *args, **kept)
        self.assertEqual(counts_of(mixture), before)


class MakingTest(MixtureCase):
    def test_counting(self):
        self.assertEqual(counts_of(Mixture(17, 3, 999, 3, 1, 3)), [(1, 1), (3, 3), (17, 1), (999, 1)])
        self.assertEqual(counts_of(Mixture()), [])

    def test_bad_number(self):
        for number in NO_NUMBERS:
            self.refused(BadNumber, Mixture, 1, number, -7, number=number)
        self.assertEqual(len(Mixture(1, 999)), 2)

    def test_limit(self):
        self.assertEqual(Mixture.LIMIT, MOST)


class IndexTest(MixtureCase):
    def test_reading(self):
        mixture = Mixture(5, 5, 7)
        self.assertEqual([mixture[number] for number in (1, 5, 7, 999)], [0, 2, 1, 0])
        for number in NO_NUMBERS:
            self.refused(BadNumber, operator.getitem, mixture, number, number=number)

    def test_setting(self):
        mixture = Mixture(5)
        mixture[999] = MOST
        mixture[1] = 1
        mixture[5] = 12
        self.assertEqual(counts_of(mixture), [(1, 1), (5, 12), (999, MOST)])
        mixture[5] = 0
        mixture[6] = 0
        self.assertEqual(counts_of(mixture), [(1, 1), (999, MOST)])
        self.assertEqual(mixture, mixed(_1=1, _999=MOST))

    def test_setting_errors(self):
        mixture = Mixture(5, 7)
        for count in (-1, MOST + 1, -10 ** 20, 10 ** 20):
            for number in (5, 6):
                self.refused_and_same(mixture, BadCount, operator.setitem, mixture, number, count, count=count)
            for number in NO_NUMBERS:
                self.refused_and_same(mixture, BadNumber, operator.setitem, mixture, number, count, number=number)

    def test_setting_is_seen_by_a_second_variable(self):
        mixture = Mixture(5)
        other = mixture
        other[6] = 2
        self.assertEqual(counts_of(mixture), [(5, 1), (6, 2)])

    def test_iteration_is_not_disturbed(self):
        mixture = Mixture(5, 7)
        for number in mixture:
            mixture[number] = 0
            mixture[number + 1] = 3
        self.assertEqual(counts_of(mixture), [(6, 3), (8, 3)])


class ReadingTest(MixtureCase):
    def test_len_and_in(self):
        mixture = Mixture(5, 5, 7)
        self.assertEqual((len(mixture), len(Mixture())), (2, 0))
        self.assertIs(5 in mixture, True)
        for other in (6, 0, -1, 1000, True, None, "5", [], {}, (5,), mixture, Share(5)):
            self.assertIs(other in mixture, False)
        self.assertIs(True in Mixture(1), False)

    def test_equality(self):
        self.assertIs(Mixture(5, 7, 5) == Mixture(7, 5, 5), True)
        self.assertIs(Mixture(5, 7, 5) != Mixture(7, 5, 5), False)
        for other in (Mixture(5, 7), Mixture(5, 5), Mixture(5, 5, 8), Mixture(), None, 5, [5, 5, 7], {5: 2, 7: 1}):
            self.assertIs(Mixture(5, 7, 5) == other, False)
            self.assertIs(Mixture(5, 7, 5) != other, True)
        self.assertIs(Mixture() == Mixture(), True)

    def test_total(self):
        self.assertEqual(Mixture().total, 0)
        self.assertEqual(Mixture(3, 9, 3).total, 3)
        self.assertEqual(mixed(_1=MOST, _2=MOST, _3=5).total, 2 * MOST + 5)


class OperatorTest(MixtureCase):
    def test_sums(self):
        one, other = Mixture(9, 3, 9), Mixture(3, 1)
        for sum_of_both in (one + other, other + one):
            self.assertEqual(counts_of(sum_of_both), [(1, 1), (3, 2), (9, 2)])
        self.assertEqual((one, other), (Mixture(3, 9, 9), Mixture(1, 3)))
        self.assertEqual(one + Mixture(), one)
        self.assertIsNot(one + Mixture(), one)

    def test_a_sum_changes_on_its_own(self):
        one, other = Mixture(3), Mixture(5)
        new = one + other
        new[3] = 7
        self.assertEqual((one, other), (Mixture(3), Mixture(5)))

    def test_in_place(self):
        mixture = Mixture(9, 3)
        second, other = mixture, Mixture(3, 1)
        mixture += other
        self.assertIs(mixture, second)
        self.assertEqual(counts_of(second), [(1, 1), (3, 2), (9, 1)])
        self.assertEqual(other, Mixture(1, 3))
        mixture += mixture
        self.assertEqual(counts_of(second), [(1, 2), (3, 4), (9, 2)])

    def test_sums_that_are_too_great(self):
        one, other = mixed(_9=MOST, _5=MOST - 1, _2=7), mixed(_9=5, _5=3, _2=1, _1=MOST)
        for sign in (operator.add, operator.iadd):
            self.refused_and_same(one, BadCount, sign, one, other, count=MOST + 2)
            self.refused_and_same(other, BadCount, sign, other, one, count=MOST + 2)
        other[5] = 1
        self.refused_and_same(one, BadCount, operator.add, one, other, count=MOST + 5)
        other[9] = 0
        self.assertEqual(counts_of(one + other), [(1, MOST), (2, 8), (5, MOST), (9, MOST)])

    def test_products(self):
        mixture = Mixture(9, 3, 9)
        for factor in (1, 2, 500000):
            for product in (mixture * factor, factor * mixture):
                self.assertEqual(counts_of(product), [(3, factor), (9, 2 * factor)])
                self.assertIsNot(product, mixture)
        for product in (mixture * 0, 0 * mixture, Mixture() * 10 ** 20):
            self.assertEqual(counts_of(product), [])
        self.assertEqual(mixture, Mixture(3, 9, 9))

    def test_products_in_place(self):
        mixture = Mixture(3)
        second = mixture
        mixture *= 4
        self.assertEqual((mixture, second), (mixed(_3=4), Mixture(3)))

    def test_products_that_are_refused(self):
        mixture = mixed(_9=MOST, _5=2, _2=1)
        for factor in (-1, -10 ** 20):
            self.refused_and_same(mixture, BadCount, operator.mul, mixture, factor, count=factor)
            self.refused_and_same(mixture, BadCount, operator.mul, factor, mixture, count=factor)
            self.refused(BadCount, operator.mul, Mixture(), factor, count=factor)
        self.refused_and_same(mixture, BadCount, operator.mul, mixture, 2, count=2 * MOST)
        self.refused_and_same(mixture, BadCount, operator.mul, 500001, mixture, count=MOST + 2)
        self.refused_and_same(mixture, BadCount, operator.mul, mixture, MOST + 1, count=MOST + 1)


class BookTest(MixtureCase):
    def test_against_the_words(self):
        kinds = set()
        for seed, book in enumerate(drawn_books(48, 150, TWELVE[:4], 8, [0, 1, 2, 2, 3, 4])):
            if not len(book):
                continue
            mixture = drawn_mixture(seed, book)
            loads = {
                literal: sum(mixture[number] for number in book if literal in book[number].literals)
                for literal in both(TWELVE[:5])
            }
            for literal, load in loads.items():
                self.assertEqual(mixture.load(book, literal), load)
            least = sum(min(loads[name], loads[opposite(name)]) for name in book.names)
            self.assertEqual(mixture.least(book), least)
            self.assertEqual(mixture.excess(book), least - mixture.total)
            self.assertIs(mixture.bars(book), least > mixture.total)
            self.assertEqual(mixture.bound(book), Share(least, mixture.total))
            kinds.add(mixture.bars(book))
        self.assertEqual(kinds, {True, False})

    def test_known_by_hand(self):
        book = Book(Clause("a", "b", "c"), Clause("-a", "-b", "-c"), Clause("a"))
        mixture = Mixture(1, 2)
        told = mixture.least(book), mixture.excess(book), mixture.bars(book), mixture.bound(book)
        self.assertEqual(told, (3, 1, True, Share(3, 2)))
        mixture = Mixture(1, 3, 3)
        told = mixture.least(book), mixture.excess(book), mixture.bars(book), mixture.bound(book)
        self.assertEqual(told, (0, -3, False, Share(0)))
        self.assertEqual((mixture.load(book, "a"), mixture.load(book, "-a"), mixture.load(book, "q")), (3, 0, 0))

    def test_an_excess_of_zero_does_not_bar(self):
        book = Book(Clause("a", "b"), Clause("-a", "-b"))
        mixture = Mixture(1, 2)
        self.assertEqual((mixture.excess(book), mixture.bound(book)), (0, Share(1)))
        self.assertIs(mixture.bars(book), False)

    def test_no_clause(self):
        book = Book.numbered([(2, Clause("a")), (5, Clause("b"))])
        mixture = Mixture(9, 5, 3, 2)
        for call in (mixture.least, mixture.excess, mixture.bars, mixture.bound):
            self.refused(NoClause, call, book, number=3)
            self.refused(NoClause, call, Book(), number=2)
            self.refused(NoClause, call, Book(Clause(), Clause()), number=3)
        self.refused(NoClause, mixture.load, book, "a", number=3)
        self.refused(NoClause, mixture.load, Book(), "q", number=2)
        for text in NO_LITERALS:
            self.refused(BadLiteral, mixture.load, book, text, text=text)

    def test_without_numbers(self):
        book = Book(Clause("a"))
        self.assertEqual((Mixture().load(book, "a"), Mixture().least(book), Mixture().excess(book)), (0, 0, 0))
        self.assertIs(Mixture().bars(book), False)
        self.refused(ZeroBelow, Mixture().bound, book)
        self.refused(ZeroBelow, Mixture().bound, Book())

    def test_nothing_changes(self):
        book, mixture = Book(Clause("a", "b"), Clause("-a")), Mixture(1, 2, 2)
        mixture.bound(book)
        self.assertEqual((book, mixture), (Book(Clause("a", "b"), Clause("-a")), Mixture(1, 2, 2)))

    def test_the_bound_is_at_most_the_greatest_weight(self):
        draw = random.Random(49)
        for seed, book in enumerate(drawn_books(49, 150, TWELVE[:5], 8, [0, 1, 2, 2, 3, 4])):
            if not len(book):
                continue
            mixture = drawn_mixture(seed, book)
            for _ in range(5):
                weights = Weights(**{name: Share(draw.randint(0, 9), 9) for name in book.names})
                self.assertIs(mixture.bound(book) <= weights.most(book), True)
