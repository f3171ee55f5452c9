"""Points 26 to 28: needs, chains and reach."""

import itertools

from helper import Case
from renamedhorn.books import Book
from renamedhorn.clauses import Clause
from renamedhorn.errors import BadLiteral
from renamedhorn.literals import in_order, negated
from renamedhorn.needs import chain, is_chain, needs, reach
from renamedhorn.turnings import Turning

BAD = ["", "-", "--a", "A", "a b", "0"]


def books():
    """Books of many shapes over a few names, some with gaps in their numbers."""
    parts = [
        Clause("a", "b"), Clause("-a", "b"), Clause("a", "-b"), Clause("-b", "c"), Clause("-c", "d", "a"),
        Clause("-a", "-d"), Clause("c"), Clause(), Clause("b", "c", "d"), Clause("-b", "-c"),
    ]
    for length in range(5):
        for row in itertools.combinations(parts, length):
            book = Book(*row)
            if length > 2:
                book.drop(2)
            yield book
    yield Book(*parts)


def literals_of(book):
    return in_order([sign + name for name in (*book.names, "q") for sign in ("", "-")])


def needs_by_hand(book):
    """All needs of a book as triples, straight from the words of point 26."""
    return [
        (one, number, negated(other))
        for number in book
        for one in book[number].literals
        for other in book[number].literals
        if one != other
    ]


def distances(book, start):
    """For each literal that can be reached, the number of links of a shortest chain."""
    found = {start: 0}
    for length in range(1, 30):
        for one, _, end in needs_by_hand(book):
            if found.get(one) == length - 1:
                found.setdefault(end, length)
    return found


class NeedsTest(Case):
    def test_order(self):
        book = Book(Clause("a", "-b", "c"), Clause("b", "d"), Clause("-d", "a"), Clause("a", "-b", "c"))
        self.assertEqual(needs(book, "a"), [(1, "b"), (1, "-c"), (3, "d"), (4, "b"), (4, "-c")])
        self.assertEqual(needs(book, "-b"), [(1, "-a"), (1, "-c"), (4, "-a"), (4, "-c")])
        self.assertEqual(needs(book, "b"), [(2, "-d")])

    def test_names_go_before_signs(self):
        book = Book.numbered([(7, Clause("c", "-a", "a1", "-b", "d"))])
        self.assertEqual(needs(book, "c"), [(7, "a"), (7, "-a1"), (7, "b"), (7, "-d")])

    def test_no_needs(self):
        book = Book(Clause("a"), Clause("-b", "c"), Clause())
        for literal in ("a", "-a", "b", "-c", "q", "-q"):
            self.assertEqual(needs(book, literal), [])
        self.assertEqual(needs(Book(), "a"), [])

    def test_all_needs(self):
        for book in books():
            for literal in literals_of(book):
                expected = [(number, end) for one, number, end in needs_by_hand(book) if one == literal]
                self.assertEqual(needs(book, literal), expected)

    def test_a_need_is_a_need_of_turnings(self):
        clause = Clause("a", "-b", "c")
        book = Book(clause)
        for length in range(4):
            for row in itertools.combinations(["a", "b", "c"], length):
                turning = Turning(*row)
                if turning.suits(clause):
                    for literal in clause:
                        for _, needed in needs(book, literal):
                            self.assertTrue(turning.says_yes(needed) or not turning.says_yes(literal))

    def test_bad_literal(self):
        for text in BAD:
            self.refused(BadLiteral, needs, Book(Clause("a", "b")), text, text=text)

    def test_the_list_is_new(self):
        book = Book(Clause("a", "b"))
        needs(book, "a").append("c")
        self.assertEqual(needs(book, "a"), [(1, "-b")])
        self.assertEqual(len(book), 1)


class ReachTest(Case):
    def test_all(self):
        for book in books():
            for literal in literals_of(book):
                self.assertEqual(reach(book, literal), in_order(list(distances(book, literal))))

    def test_itself_is_included(self):
        self.assertEqual(reach(Book(), "-a"), ["-a"])
        self.assertEqual(reach(Book(Clause("a", "b")), "a"), ["a", "-b"])
        self.assertEqual(reach(Book(Clause("b", "c")), "-a"), ["-a"])

    def test_in_literal_order(self):
        book = Book(Clause("c", "-a"), Clause("-a", "b"), Clause("a", "-c"), Clause("a", "c"))
        self.assertEqual(reach(book, "c"), ["a", "-a", "-b", "c", "-c"])

    def test_bad_literal(self):
        for text in BAD:
            self.refused(BadLiteral, reach, Book(Clause("a", "b")), text, text=text)


class ChainTest(Case):
    def test_all(self):
        for book in books():
            for start in literals_of(book):
                lengths = distances(book, start)
                for goal in literals_of(book):
                    links = chain(book, start, goal)
                    if goal not in lengths:
                        self.assertIsNone(links)
                        continue
                    self.assertIs(type(links), list)
                    self.assertEqual(len(links), lengths[goal])
                    self.assertIs(is_chain(book, start, goal, links), True)
                    self.look_at(book, start, goal, links)

    def look_at(self, book, start, goal, links):
        """Assert by hand that links are a chain."""
        ends = [start, *[link[2] for link in links]]
        self.assertEqual([link[0] for link in links], ends[:-1])
        self.assertEqual(ends[-1], goal)
        for link in links:
            self.assertIs(type(link), tuple)
            self.assertIn(link, needs_by_hand(book))

    def test_a_long_chain(self):
        names = [f"a{at:02}" for at in range(12)]
        book = Book(*[Clause(one, "-" + other) for one, other in zip(names, names[1:])])
        links = chain(book, "a00", "a11")
        self.assertEqual(links, [(names[at], at + 1, names[at + 1]) for at in range(11)])
        self.assertIsNone(chain(book, "a11", "a00"))

    def test_from_a_literal_to_itself(self):
        book = Book(Clause("a", "b"), Clause("-b", "-a"))
        for literal in ("a", "-a", "q", "-q"):
            self.assertEqual(chain(book, literal, literal), [])
            self.assertEqual(chain(Book(), literal, literal), [])

    def test_no_chain(self):
        self.assertIsNone(chain(Book(), "a", "-a"))
        self.assertIsNone(chain(Book(Clause("a", "b")), "a", "b"))
        self.assertIsNone(chain(Book(Clause("a")), "a", "-a"))

    def test_bad_literals(self):
        book = Book(Clause("a", "b"))
        for text in BAD:
            self.refused(BadLiteral, chain, book, text, "a", text=text)
            self.refused(BadLiteral, chain, book, "a", text, text=text)
            self.refused(BadLiteral, chain, book, text, "B", text=text)
        self.refused(BadLiteral, chain, book, "B", "A", text="B")

    def test_mirrored_chains(self):
        for book in books():
            for start in literals_of(book):
                for goal in literals_of(book):
                    links = chain(book, start, goal)
                    mirrored = chain(book, negated(goal), negated(start))
                    if links is None:
                        self.assertIsNone(mirrored)
                        continue
                    self.assertEqual(len(links), len(mirrored))
                    turned = [(negated(end), number, negated(one)) for one, number, end in links[::-1]]
                    self.assertIs(is_chain(book, negated(goal), negated(start), turned), True)


class IsChainTest(Case):
    def setUp(self):
        self.book = Book(Clause("x"), Clause("a", "b"), Clause("-b", "c"), Clause("a", "b"), Clause("-a", "b", "d"))
        self.book.drop(1)
        self.links = [("a", 2, "-b"), ("-b", 3, "-c")]

    def told(self, start, goal, links):
        told = [is_chain(self.book, start, goal, kind(links)) for kind in (list, tuple)]
        self.assertIs(told[0], told[1])
        return told[0]

    def test_chains(self):
        self.assertIs(self.told("a", "-c", self.links), True)
        self.assertIs(self.told("a", "-b", [("a", 4, "-b")]), True)
        self.assertIs(self.told("-b", "-c", self.links[1:]), True)
        self.assertIs(self.told("-a", "-d", [("-a", 5, "-d")]), True)

    def test_chains_that_are_not_shortest(self):
        book = Book(Clause("a", "b"), Clause("-a", "-b"))
        around = [("a", 1, "-b"), ("-b", 2, "a")]
        self.assertIs(is_chain(book, "a", "a", around), True)
        self.assertIs(is_chain(book, "a", "-b", around * 3 + around[:1]), True)

    def test_empty_list(self):
        self.assertIs(self.told("a", "a", []), True)
        self.assertIs(self.told("-q", "-q", []), True)
        self.assertIs(self.told("a", "-b", []), False)
        self.assertIs(self.told("a", "-a", []), False)

    def test_wrong_start_or_goal(self):
        for start, goal in (("-b", "-c"), ("-a", "-c"), ("a", "c"), ("a", "-b"), ("q", "-c"), ("a", "a")):
            self.assertIs(self.told(start, goal, self.links), False)

    def test_links_that_do_not_join(self):
        self.assertIs(self.told("a", "-c", self.links[::-1]), False)
        self.assertIs(self.told("a", "-c", [("a", 2, "-b"), ("b", 3, "-c")]), False)
        self.assertIs(self.told("a", "-a", [("a", 2, "-b"), ("b", 5, "a")]), False)
        self.assertIs(self.told("a", "-d", [("a", 2, "-b"), ("b", 5, "-d")]), False)
        self.assertIs(self.told("a", "-c", self.links * 2), False)

    def test_wrong_numbers(self):
        for number in (0, -2, 1, 3, 5, 6, 999, 1000, 10 ** 20):
            self.assertIs(self.told("a", "-b", [("a", number, "-b")]), False)

    def test_links_that_are_no_needs(self):
        for link in (
            ("a", 2, "b"), ("a", 2, "a"), ("a", 2, "-a"), ("-a", 2, "b"), ("a", 2, "-c"), ("a", 5, "-b"),
            ("d", 5, "d"), ("d", 5, "-d"),
        ):
            self.assertIs(self.told(link[0], link[2], [link]), False)

    def test_strings_that_are_no_literals(self):
        for text in BAD:
            self.assertIs(self.told("a", "-c", [(text, 2, "-b"), ("-b", 3, "-c")]), False)
            self.assertIs(self.told("a", "-c", [("a", 2, text), (text, 3, "-c")]), False)
            self.assertIs(self.told("a", "-c", [("a", 2, "-b"), ("-b", 3, text)]), False)

    def test_bad_literals(self):
        for text in BAD:
            self.refused(BadLiteral, is_chain, self.book, text, "a", self.links, text=text)
            self.refused(BadLiteral, is_chain, self.book, "a", text, self.links, text=text)
        self.refused(BadLiteral, is_chain, self.book, "B", "A", [], text="B")
