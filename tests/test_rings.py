"""Points 29 to 31: rings."""

from helper import Case, NO_NAMES, TWELVE, distances, drawn_books, state, suiting
from renamedhorn.books import Book
from renamedhorn.clauses import Clause
from renamedhorn.errors import BadName
from renamedhorn.rings import Ring, apart_rings, first_ring, ring_at, ring_names

# Here a needs -b needs -a, and -a needs -c needs a.
ONE_RING = [Clause("a", "b"), Clause("a", "-b"), Clause("-a", "c"), Clause("-a", "-c")]
THERE = [("a", 1, "-b"), ("-b", 2, "-a")]
BACK = [("-a", 3, "-c"), ("-c", 4, "a")]


def books():
    """Books of many kinds, plain ones and others."""
    return [
        Book(), Book(Clause()), Book(Clause("a")), Book(Clause("a"), Clause("-a")), Book(*ONE_RING),
        *drawn_books(29, 60, TWELVE[:4], 6, [1, 2, 2, 3]),
        *drawn_books(30, 30, TWELVE[:7], 12, [2, 2, 3]),
        *drawn_books(31, 12, TWELVE, 24, [2, 2, 2, 3, 6]),
    ]


class RingNamesTest(Case):
    def test_against_all_chains(self):
        for book in books():
            found = distances(book)
            expected = [name for name in book.names if (name, "-" + name) in found and ("-" + name, name) in found]
            self.assertEqual(ring_names(book), expected)
            self.assertIs(type(ring_names(book)), list)

    def test_a_book_is_plain_exactly_if_a_turning_suits_it(self):
        kinds = set()
        for book in books():
            kinds.add(ring_names(book) == [])
            self.assertIs(ring_names(book) == [], len(suiting(book)) > 0)
        self.assertEqual(kinds, {True, False})

    def test_books_known_by_hand(self):
        self.assertEqual(ring_names(Book()), [])
        self.assertEqual(ring_names(Book(Clause())), [])
        self.assertEqual(ring_names(Book(Clause("a", "b"), Clause("-a", "b"))), [])
        self.assertEqual(ring_names(Book(*ONE_RING)), ["a", "b", "c"])
        self.assertEqual(ring_names(Book(*ONE_RING, Clause("a", "d"), Clause("e", "-d"))), ["a", "b", "c"])
        self.assertEqual(ring_names(Book(Clause("a", "b", "-c"), Clause("-a", "-b", "c"))), ["a", "b", "c"])
        self.assertEqual(ring_names(Book(Clause("b", "c"), Clause("-b", "-c"))), [])

    def test_one_literal_in_both_signs(self):
        self.assertEqual(ring_names(Book(Clause("a"), Clause("-a"))), [])
        self.assertEqual(ring_names(Book(Clause("d"), Clause("-d"), *ONE_RING)), ["a", "b", "c"])

    def test_several_rings(self):
        other = [Clause("e", "f"), Clause("e", "-f"), Clause("-e", "f"), Clause("-e", "-f")]
        self.assertEqual(ring_names(Book(*other, Clause("d", "g"), *ONE_RING)), ["a", "b", "c", "e", "f"])

    def test_the_list_is_new(self):
        book = Book(*ONE_RING)
        ring_names(book).append("d")
        self.assertEqual(ring_names(book), ["a", "b", "c"])


class RingTest(Case):
    def setUp(self):
        self.book = Book(*ONE_RING)

    def test_what_it_keeps(self):
        for kind in (list, tuple):
            ring = Ring("a", kind(THERE), kind(BACK))
            self.assertEqual(vars(ring), {"name": "a", "there": tuple(THERE), "back": tuple(BACK)})
            self.assertIs(ring.bars(self.book), True)

    def test_it_keeps_no_list(self):
        there, back = list(THERE), list(BACK)
        ring = Ring("a", there, back)
        there.clear()
        back.append(("a", 1, "-b"))
        self.assertEqual((ring.there, ring.back), (tuple(THERE), tuple(BACK)))

    def test_bad_name(self):
        for text in NO_NAMES:
            self.refused(BadName, Ring, text, THERE, BACK, text=text)
        self.assertEqual(Ring("z", [], []).name, "z")

    def test_it_may_be_wrong_and_is_kept(self):
        ring = Ring("b", [("A", 7, "")], [])
        self.assertEqual((ring.name, ring.there, ring.back), ("b", (("A", 7, ""),), ()))
        self.assertIs(ring.bars(self.book), False)

    def wrong(self, name, there, back, book=None):
        self.assertIs(Ring(name, there, back).bars(book or self.book), False)

    def test_rings_that_are_wrong(self):
        self.wrong("a", [], [])
        self.wrong("a", THERE, [])
        self.wrong("a", [], BACK)
        self.wrong("a", BACK, THERE)
        self.wrong("b", THERE, BACK)
        self.wrong("q", THERE, BACK)
        self.wrong("a", [("a", 1, "-b"), ("-b", 3, "-a")], BACK)
        self.wrong("a", [("a", 1, "-b"), ("-b", 9, "-a")], BACK)
        self.wrong("a", [("a", 1, "-b"), ("b", 2, "-a")], BACK)
        self.wrong("a", THERE[:1], BACK)
        self.wrong("a", THERE, BACK[:1])
        self.wrong("a", THERE[1:], BACK)
        self.wrong("a", THERE + BACK, BACK)
        self.wrong("a", THERE, BACK + THERE)

    def test_the_chains_of_another_book(self):
        for number in (1, 2, 3, 4):
            book = self.book.copy()
            book -= number
            self.wrong("a", THERE, BACK, book)
        self.wrong("a", THERE, BACK, Book(*ONE_RING[::-1]))
        self.assertIs(Ring("a", THERE, BACK).bars(Book(*ONE_RING, Clause("a", "q"))), True)

    def test_longer_chains(self):
        ring = Ring("a", THERE + BACK + THERE, BACK + THERE + BACK)
        self.assertIs(ring.bars(self.book), True)
        self.assertEqual(ring.numbers, (1, 2, 3, 4))

    def test_numbers(self):
        self.assertEqual(Ring("a", THERE, BACK).numbers, (1, 2, 3, 4))
        self.assertEqual(Ring("a", BACK, []).numbers, (3, 4))
        self.assertEqual(Ring("a", [], []).numbers, ())
        links = [("a", 17, "b"), ("b", 3, "c"), ("c", 17, "d"), ("d", 200, "e"), ("e", 3, "f")]
        self.assertEqual(Ring("a", links, links[::-1]).numbers, (3, 17, 200))


class RingAtTest(Case):
    def test_against_all_chains(self):
        for book in books():
            found = distances(book)
            for name in book.names:
                ring = ring_at(book, name)
                ways = [(name, "-" + name), ("-" + name, name)]
                if not all(way in found for way in ways):
                    self.assertIsNone(ring)
                    continue
                self.assertIs(type(ring), Ring)
                self.assertEqual(ring.name, name)
                self.assertIs(ring.bars(book), True)
                self.assertEqual([len(ring.there), len(ring.back)], [found[way] for way in ways])

    def test_names_outside_of_the_book(self):
        for book in (Book(), Book(*ONE_RING)):
            self.assertIsNone(ring_at(book, "q"))

    def test_bad_name(self):
        for text in NO_NAMES:
            self.refused(BadName, ring_at, Book(*ONE_RING), text, text=text)
            self.refused(BadName, ring_at, Book(), text, text=text)

    def test_first_ring(self):
        for book in books():
            names = ring_names(book)
            ring = first_ring(book)
            if not names:
                self.assertIsNone(ring)
                continue
            expected = ring_at(book, names[0])
            self.assertEqual(vars(ring), vars(expected))
            self.assertIs(ring.bars(book), True)


class ApartRingsTest(Case):
    def look_at(self, book):
        before = state(book)
        rings = apart_rings(book)
        self.assertEqual(state(book), before)
        self.assertIs(type(rings), list)
        self.assertLessEqual(len(rings), 24)
        left = book.copy()
        for ring in rings:
            self.assertIs(ring.bars(book), True)
            self.assertLessEqual(max(len(ring.there), len(ring.back)), 23)
            for number in ring.numbers:
                left -= number
        self.assertEqual(ring_names(left), [])
        self.assertGreater(len(suiting(left)), 0)
        return rings

    def test_books(self):
        for book in books():
            self.assertEqual(self.look_at(book) == [], ring_names(book) == [])

    def test_plain_books(self):
        self.assertEqual(apart_rings(Book()), [])
        self.assertEqual(apart_rings(Book(Clause("a"), Clause("-a"), Clause())), [])

    def test_many_rings(self):
        pairs = [Clause("a", "b"), Clause("a", "-b"), Clause("-a", "b"), Clause("-a", "-b")]
        self.assertGreater(len(self.look_at(Book(*pairs * 6))), 1)
        six = [Clause(*"abcdef"), Clause(*["-" + sign for sign in "abcdef"])]
        self.assertGreater(len(self.look_at(Book(*six * 12))), 1)

    def test_the_list_is_new(self):
        book = Book(*ONE_RING)
        apart_rings(book).clear()
        self.assertEqual(len(apart_rings(book)), 1)

    def test_a_long_ring(self):
        steps = [Clause(one, "-" + other) for one, other in zip(TWELVE, TWELVE[1:11])]
        book = Book(*steps, Clause("k", "a"), Clause("-a", "-l"), Clause("l", "-a"))
        rings = self.look_at(book)
        self.assertEqual([ring.name for ring in rings], ["a"])
        self.assertEqual((len(rings[0].there), len(rings[0].back)), (11, 2))
