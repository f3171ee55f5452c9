"""Point 24: clauses and books that are read."""

import itertools

from helper import Case
from renamedhorn.books import Book
from renamedhorn.clauses import Clause
from renamedhorn.errors import BadLiteral, BadNumber, BadText, BothSigns, TooMany
from renamedhorn.printing import book_text, clause_text
from renamedhorn.reading import read_book, read_clause

SEVEN = "a | b | c | d | e | f | g"

# Texts that are no clause's, and the error that Clause raises for their parts, if it raises one.
NO_CLAUSES = [
    ("", BadLiteral), (" ", BadLiteral), ("\n", BadLiteral), ("-", BadLiteral), ("00", BadLiteral),
    ("-0", BadLiteral), ("A", BadLiteral), ("--a", BadLiteral), ("abcdefghi", BadLiteral),
    (" a", BadLiteral), ("a ", BadLiteral), ("a\n", BadLiteral), ("\na", BadLiteral), ("- a", BadLiteral),
    (" 0", BadLiteral), ("0 ", BadLiteral), ("0 | a", BadLiteral), ("a | 0", BadLiteral), ("0 | 0", BadLiteral),
    ("a|b", BadLiteral), ("a |b", BadLiteral), ("a| b", BadLiteral), ("a  | b", BadLiteral),
    ("a |  b", BadLiteral), ("a | b |", BadLiteral), ("a | b | ", BadLiteral), ("| a", BadLiteral),
    (" | ", BadLiteral), (" | a", BadLiteral), ("a | | b", BadLiteral), ("a |\nb", BadLiteral),
    ("a, b", BadLiteral), ("a b", BadLiteral), ("1 a", BadLiteral), ("b | a | A", BadLiteral),
    ("a | -a", BothSigns), ("-a | a", BothSigns), ("b | a | -b", BothSigns),
    (SEVEN, TooMany), ("h | " + SEVEN, TooMany),
    ("b | a", None), ("a | a", None), ("a | b | b", None), ("a1 | a", None), ("c | -b | a", None),
    (SEVEN[:-4] + " | f", None),
]

# Words that are no number of a line's form.
NO_NUMBERS = ["", "01", "001", "00", "1000", "0001", "-1", "+1", "1.", "a", "1a", "1,0", "1_0", "99999", "\t1"]


class ReadClauseTest(Case):
    def test_reading_what_is_written(self):
        for signs in itertools.product(["", "-", "x"], repeat=4):
            literals = [sign + name for sign, name in zip(signs, ["a", "a0", "ab", "b"]) if sign != "x"]
            clause = Clause(*literals)
            read = read_clause(clause_text(clause))
            self.assertIs(type(read), Clause)
            self.assertEqual(read, clause)

    def test_six_literals(self):
        self.assertEqual(read_clause(SEVEN[:-4]), Clause("a", "b", "c", "d", "e", "f"))

    def test_no_literals(self):
        self.assertEqual(read_clause("0"), Clause())

    def test_bad_texts(self):
        for text, cause in NO_CLAUSES:
            with self.subTest(text=text):
                error = self.refused(BadText, read_clause, text, line=1)
                self.assertIs(type(error.__cause__), type(None) if cause is None else cause)

    def test_what_the_causes_keep(self):
        self.assertEqual(self.refused(BadText, read_clause, "a | B | C", line=1).__cause__.text, "B")
        self.assertEqual(self.refused(BadText, read_clause, "", line=1).__cause__.text, "")
        self.assertEqual(self.refused(BadText, read_clause, "a | b | -b", line=1).__cause__.name, "b")
        self.assertEqual(self.refused(BadText, read_clause, SEVEN, line=1).__cause__.limit, 6)


class ReadBookTest(Case):
    def test_reading_what_is_written(self):
        texts = ["1 a", "7 0", "2 a | -b\n3 0\n17 -b\n999 a | -b", "1 a\n2 a", ""]
        for text in texts:
            with self.subTest(text=text):
                book = read_book(text)
                self.assertIs(type(book), Book)
                self.assertEqual(book_text(book), text)

    def test_next_number(self):
        self.assertEqual(read_book("").next_number, 1)
        self.assertEqual(len(read_book("")), 0)
        self.assertEqual(read_book("2 a\n17 b").next_number, 18)
        self.assertEqual(read_book("999 a").next_number, 1000)

    def test_a_book_with_gaps(self):
        book = Book(Clause("a"), Clause("b"), Clause("c"))
        book.drop(2)
        book.drop(3)
        self.assertEqual(read_book(book_text(book)), book)
        self.assertEqual(read_book(book_text(book)).next_number, 2)

    def test_a_full_book(self):
        book = Book(*[Clause("a", "b", "c", "d", "e", "f"), Clause("-g", "-h", "i", "j", "k", "l")] * 12)
        self.assertEqual(read_book(book_text(book)), book)

    def test_bad_clauses(self):
        for text, cause in NO_CLAUSES:
            if "\n" in text:
                continue
            for before in ("", "1 a\n", "1 b\n2 -c | d\n"):
                with self.subTest(text=text, before=before):
                    whole = before + "5 " + text + "\n6 A\n"
                    error = self.refused(BadText, read_book, whole, line=before.count("\n") + 1)
                    self.assertIs(type(error.__cause__), type(None) if cause is None else cause)

    def test_bad_numbers(self):
        for word in NO_NUMBERS:
            for before in ("", "1 a\n"):
                with self.subTest(word=word, before=before):
                    line = before.count("\n") + 1
                    error = self.refused(BadText, read_book, before + word + " b", line=line)
                    self.assertIsNone(error.__cause__)

    def test_lines_without_a_clause(self):
        for row in ("1", "a", "0", "1\n2 a", "12"):
            self.assertIsNone(self.refused(BadText, read_book, row, line=1).__cause__)
        self.assertIs(type(self.refused(BadText, read_book, "1 ", line=1).__cause__), BadLiteral)

    def test_spaces_too_many(self):
        for row in (" 2 a", "2  a", "2 a ", "2 a  | b", " ", "  "):
            self.refused(BadText, read_book, row, line=1)
            self.refused(BadText, read_book, "1 a\n" + row + "\n3 b", line=2)

    def test_empty_lines(self):
        for text, line in (("\n", 1), ("1 a\n", 2), ("\n1 a", 1), ("1 a\n\n2 b", 2), ("1 a\n2 b\n", 3), ("\n\n", 1)):
            with self.subTest(text=text):
                self.assertIsNone(self.refused(BadText, read_book, text, line=line).__cause__)

    def test_numbers_that_a_book_refuses(self):
        for text, line, number in (
            ("0 a", 1, 0), ("1 a\n0 b", 2, 0), ("3 a\n3 b", 2, 3), ("3 a\n5 c\n4 b\n1 d", 3, 4), ("999 a\n1 b", 2, 1),
        ):
            with self.subTest(text=text):
                cause = self.refused(BadText, read_book, text, line=line).__cause__
                self.assertIs(type(cause), BadNumber)
                self.assertEqual(cause.number, number)

    def test_a_twenty_fifth_clause(self):
        rows = [f"{number} a" for number in range(1, 26)]
        self.assertEqual(len(read_book("\n".join(rows[:24]))), 24)
        cause = self.refused(BadText, read_book, "\n".join(rows), line=25).__cause__
        self.assertEqual((type(cause), cause.limit), (TooMany, 24))

    def test_a_thirteenth_name(self):
        rows = ["1 a | b | c | d | e | f", "4 g | h | i | j | k | l", "5 -a | -l"]
        self.assertEqual(len(read_book("\n".join(rows)).names), 12)
        cause = self.refused(BadText, read_book, "\n".join([*rows, "7 m", "8 A"]), line=4).__cause__
        self.assertEqual((type(cause), cause.limit), (TooMany, 12))

    def test_the_first_wrong_line_of_several(self):
        self.refused(BadText, read_book, "1 a\n1 b\n3 A", line=2)
        self.refused(BadText, read_book, "1 a\n3 A\n1 b", line=2)
        self.refused(BadText, read_book, "2 a\n3 b\n04 c\n1 d", line=3)

    def test_the_form_of_a_line_goes_ahead_of_its_number(self):
        self.assertIs(type(self.refused(BadText, read_book, "3 a\n2 A", line=2).__cause__), BadLiteral)
        self.assertIsNone(self.refused(BadText, read_book, "3 a\n2 c | b", line=2).__cause__)
        self.assertIs(type(self.refused(BadText, read_book, "0 a | -a", line=1).__cause__), BothSigns)
