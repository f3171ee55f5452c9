"""Points 23 and 25: the texts that are written."""

from helper import Case
from renamedhorn.books import Book
from renamedhorn.clauses import Clause
from renamedhorn.mixtures import Mixture
from renamedhorn.printing import book_text, clause_text, mixture_text, weights_text
from renamedhorn.shares import Share
from renamedhorn.weights import Weights


def mixture_of(counts):
    """The mixture with these counts at their numbers."""
    mixture = Mixture()
    for number, count in counts.items():
        mixture[number] = count
    return mixture


class ClauseTextTest(Case):
    def test_texts(self):
        self.assertEqual(clause_text(Clause("b", "-a", "c1")), "-a | b | c1")
        self.assertEqual(clause_text(Clause("-a")), "-a")
        self.assertEqual(clause_text(Clause()), "0")


class BookTextTest(Case):
    def test_lines(self):
        self.assertEqual(book_text(Book(Clause("b", "a"), Clause(), Clause("-a"))), "1 a | b\n2 0\n3 -a")
        self.assertEqual(book_text(Book(Clause("b", "a"))), "1 a | b")

    def test_gaps_in_the_numbers(self):
        book = Book.numbered([(7, Clause("a")), (70, Clause("-b")), (700, Clause("a"))])
        book.drop(70)
        book += Clause("c", "-b")
        self.assertEqual(book_text(book), "7 a\n700 a\n701 -b | c")

    def test_no_clauses(self):
        self.assertEqual(book_text(Book()), "")
        book = Book(Clause("a"))
        book.drop(1)
        self.assertEqual(book_text(book), "")


class WeightsTextTest(Case):
    def test_columns(self):
        weights = Weights(b1=Share(1, 2), a=Share(0), abcdefgh=1)
        self.assertEqual(weights_text(weights), "a              0\nabcdefgh       1\nb1           1/2")

    def test_widths(self):
        for name in ("a", "abcd", "abcdefg", "abcdefgh", "self"):
            for share in (Share(0), Share(1), Share(1, 2), Share(10, 13), Share(100, 103), Share(123, 1234)):
                weights = Weights()
                weights[name] = share
                line = name + " " * (8 - len(name)) + " " + " " * (7 - len(str(share))) + str(share)
                self.assertEqual(weights_text(weights), line)

    def test_longer_shares_are_written_in_full(self):
        weights = Weights(a=Share(123, 4567), b=Share(1234, 5677), c=Share(12345, 678901))
        self.assertEqual(weights_text(weights), "a        123/4567\nb        1234/5677\nc        12345/678901")

    def test_no_names(self):
        self.assertEqual(weights_text(Weights()), "")


class MixtureTextTest(Case):
    def test_parts(self):
        self.assertEqual(mixture_text(mixture_of({17: 2, 3: 1000})), "1,000 x 3 + 2 x 17")
        self.assertEqual(mixture_text(Mixture(999)), "1 x 999")
        self.assertEqual(mixture_text(Mixture(10, 9, 100, 9)), "2 x 9 + 1 x 10 + 1 x 100")

    def test_commas(self):
        counts = {1: "1", 999: "999", 1000: "1,000", 99999: "99,999", 100000: "100,000", 1000000: "1,000,000"}
        for count, text in counts.items():
            self.assertEqual(mixture_text(mixture_of({5: count})), text + " x 5")

    def test_no_numbers(self):
        self.assertEqual(mixture_text(Mixture()), "0")
        self.assertEqual(mixture_text(Mixture(3) * 0), "0")
