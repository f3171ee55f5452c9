"""Points 88 and 89: doors, and settling through them."""

import itertools
import random

from helper import (
    Case, NO_LITERALS, NO_NAMES, THIRTEEN, TWELVE, drawn_books, drawn_clause, drawn_facts, drawn_halved_books,
    models_by_hand, parts_of, state, suiting,
)
from renamedhorn.books import Book
from renamedhorn.clauses import Clause
from renamedhorn.doors import Door, is_door, least_door, settle_through, without
from renamedhorn.errors import BadLiteral, BadName, BothSigns, NotPlain, TooMany
from renamedhorn.refutations import Refutation
from renamedhorn.rings import Ring, first_ring
from renamedhorn.settling import Answer
from renamedhorn.turnings import Turning

SQUARE = [Clause("a", "b"), Clause("a", "-b"), Clause("-a", "b"), Clause("-a", "-b")]
CUBE = [Clause(*[sign + name for sign, name in zip(signs, "abc")]) for signs in itertools.product(["", "-"], repeat=3)]


def without_by_hand(book, names):
    """The numbers of a book with the literals that are left of their clauses."""
    return [
        (number, tuple(part for part in book[number] if part.removeprefix("-") not in names)) for number in book
    ]


def left_by_hand(book, names):
    """The book of what is left without names, numbered from 1."""
    return Book(*[Clause(*literals) for _, literals in without_by_hand(book, names)])


def cases():
    """Books of all kinds with at most five names."""
    return [
        Book(), Book(Clause()), Book(Clause("a")), Book(*SQUARE), Book(*CUBE), Book(*CUBE, Clause("d", "e")),
        *drawn_books(880, 40, TWELVE[:3], 8, [1, 2, 2, 3]),
        *drawn_books(881, 40, TWELVE[:5], 14, [1, 2, 2, 3]),
        *drawn_books(882, 20, TWELVE[:5], 24, [2, 3, 4]),
        *drawn_halved_books(883, 20),
    ]


class WithoutTest(Case):
    def test_against_the_definition(self):
        draw = random.Random(88)
        found = []
        for book in cases():
            for _ in range(4):
                names = [*draw.sample(book.names, draw.randint(0, len(book.names))), *draw.sample(["x", "y"], 1)]
                names = names + names[:1]
                before, given = state(book), list(names)
                left = without(book, names)
                self.assertIs(type(left), Book)
                self.assertEqual([(number, left[number].literals) for number in left], without_by_hand(book, names))
                self.assertEqual(left.next_number, book.next_number)
                found.append(is_door(book, names))
                self.assertIs(found[-1], bool(suiting(left_by_hand(book, names))))
                self.assertEqual((state(book), names), (before, given))
        self.assertGreater(found.count(True), 50)
        self.assertGreater(found.count(False), 30)

    def test_the_new_book_changes_independently(self):
        book = Book(Clause("a", "b"), Clause("c"))
        book -= 2
        left = without(book, ["a"])
        self.assertEqual(left.put(Clause("d")), 3)
        left.drop(1)
        self.assertEqual(state(book)[0], [(1, "a | b")])
        self.assertEqual(state(without(book, []))[0], [(1, "a | b")])
        self.assertEqual(state(without(book, ["b", "a", "z"])), ([(1, "0")], (), 3, 1))

    def test_more_names_than_a_book_may_have(self):
        names = [*THIRTEEN, *["x" + name for name in THIRTEEN]]
        self.assertEqual(str(without(Book(Clause("a", "z")), names)[1]), "z")
        self.assertIs(is_door(Book(*SQUARE), names), True)

    def test_bad_names(self):
        for text in NO_NAMES:
            for call in (without, is_door):
                self.refused(BadName, call, Book(*SQUARE), ["z", "a", text, "B"], text=text)


class LeastDoorTest(Case):
    def look_at(self, book):
        """Assert what point 88 says of the least door, and return how many names it has."""
        before = state(book)
        door = least_door(book)
        self.assertIs(type(door), Door)
        self.assertEqual(set(vars(door)), {"taken", "turning", "rings"})
        doors = [
            names
            for many in range(len(book.names) + 1)
            for names in itertools.combinations(book.names, many)
            if suiting(left_by_hand(book, names))
        ]
        self.assertEqual(door.taken, doors[0])
        self.assertIs(type(door.taken), tuple)
        self.assertEqual(door.turning, Turning(*suiting(left_by_hand(book, door.taken))[0]))
        self.assertIs(type(door.rings), list)
        if not door.taken:
            self.assertEqual(door.rings, [])
            self.assertEqual(door.turning, Turning(*suiting(book)[0]))
        else:
            sets = list(itertools.combinations(book.names, len(door.taken) - 1))
            self.assertEqual(len(door.rings), len(sets))
            for ring, names in zip(door.rings, sets):
                self.assertIs(type(ring), Ring)
                self.assertIs(ring.bars(without(book, list(names))), True)
                self.assertLessEqual(max(len(ring.there), len(ring.back)), 23)
        self.assertEqual(state(book), before)
        return len(door.taken)

    def test_against_all_sets_of_names(self):
        found = [self.look_at(book) for book in cases() if len(book.names) <= 8]
        self.assertEqual(set(range(3)) - set(found), set())

    def test_known_by_hand(self):
        self.assertEqual(least_door(Book(*SQUARE)).taken, ("a",))
        self.assertEqual(least_door(Book(*CUBE)).taken, ("a", "b"))
        door = least_door(Book(Clause("a", "b", "z"), Clause("-b", "-z", "-a"), Clause("c", "d")))
        self.assertEqual((door.taken, door.turning.turned), (("a",), ("d", "z")))
        self.assertEqual(least_door(Book()).taken, ())
        self.assertEqual(least_door(Book(Clause())).rings, [])

    def test_eight_names(self):
        books = [book for book in drawn_books(884, 12, TWELVE[:8], 24, [2, 3, 4]) if len(book.names) == 8]
        found = [self.look_at(book) for book in books]
        self.assertGreater(max(found), 2)

    def test_more_than_eight_names(self):
        for names in (TWELVE[:9], TWELVE):
            book = Book(*[Clause(name) for name in names])
            self.refused(TooMany, least_door, book, limit=8)
            self.assertIs(is_door(book, []), True)


class SettleThroughTest(Case):
    def look_at(self, book, names, facts):
        """Assert what point 89 says of a door, and return the depth of the refutation or None."""
        before, given, passed = state(book), list(names), list(facts)
        answer = settle_through(book, names, facts)
        self.assertIs(type(answer), Answer)
        self.assertEqual((state(book), list(names), list(facts)), (before, given, passed))
        found = models_by_hand(book, facts)
        if found:
            self.assertIn(answer.model, found)
            self.assertIsNone(answer.paper)
            return None
        self.assertIsNone(answer.model)
        self.assertIs(type(answer.paper), Refutation)
        self.assertIs(answer.paper.refutes(book, facts), True)
        self.assertLessEqual(answer.paper.depth, len(set(names)))
        self.assertLessEqual(set(self.splits(answer.paper)), set(names))
        for part in parts_of(answer.paper):
            self.assertLessEqual(len(part.steps), 25)
        return answer.paper.depth

    def splits(self, paper):
        """The names at which a refutation splits."""
        if paper.name is None:
            return []
        return [paper.name, *self.splits(paper.when), *self.splits(paper.unless)]

    def test_doors_of_all_kinds(self):
        draw = random.Random(89)
        found, barred = [], 0
        for book in cases():
            for _ in range(4):
                names = draw.sample(book.names, draw.randint(0, len(book.names))) + draw.sample(["x", "x9"], 1)
                draw.shuffle(names)
                facts = drawn_facts(draw, book.names, 2)
                if suiting(left_by_hand(book, names)):
                    found.append(self.look_at(book, names + names[:1], facts))
                    found.append(self.look_at(book, names, tuple(facts[:1])))
                else:
                    barred += 1
                    self.not_a_door(book, names, facts)
        for depth in (None, 0, 1, 2):
            self.assertGreater(found.count(depth), 3, depth)
        self.assertGreater(barred, 50)

    def not_a_door(self, book, names, facts):
        with self.assertRaises(NotPlain) as caught:
            settle_through(book, names, facts)
        left = without(book, names)
        self.assertIs(type(caught.exception.ring), Ring)
        self.assertEqual(caught.exception.ring.name, first_ring(left).name)
        self.assertIs(caught.exception.ring.bars(left), True)

    def test_least_doors(self):
        for book in cases():
            if len(book.names) <= 8:
                self.look_at(book, list(least_door(book).taken), [])

    def test_all_names_of_large_books(self):
        draw = random.Random(890)
        books = [Book(*[drawn_clause(draw, TWELVE[:6], [2, 3, 3]) for _ in range(24)]) for _ in range(12)]
        found = [self.look_at(book, TWELVE, []) for book in books]
        self.assertGreater(len([depth for depth in found if depth is not None and depth > 0]), 2)

    def test_known_by_hand(self):
        self.assertEqual(settle_through(Book(), [], ["b", "-a"]).model, ("-a", "b"))
        self.assertEqual(settle_through(Book(*SQUARE), ["a"]).paper.name, "a")
        self.assertEqual(settle_through(Book(*SQUARE), ["b", "z"]).paper.name, "b")
        self.assertEqual(settle_through(Book(*SQUARE), ["b", "a"], ["a", "z"]).paper.steps[-1][1], None)
        self.assertEqual(settle_through(Book(*SQUARE[:3]), ["a"]).model, ("a", "b"))
        self.assertEqual(settle_through(Book(*CUBE), ["a", "b"]).paper.depth, 2)

    def test_errors_in_their_order(self):
        book = Book(*SQUARE)
        for text in NO_NAMES:
            self.refused(BadName, settle_through, book, ["z", text, "B"], ["A"], text=text)
        for text in NO_LITERALS:
            self.refused(BadLiteral, settle_through, book, ["z"], ["b", "-b", text, "B"], text=text)
        self.refused(BothSigns, settle_through, book, ["z"], ["c", "-c", "-b", "b", *THIRTEEN], name="b")
        self.refused(TooMany, settle_through, book, ["z"], THIRTEEN, limit=12)
        self.not_a_door(book, ["z"], TWELVE)
        self.not_a_door(book, [], ["a"])

    def test_errors_of_the_facts(self):
        for book in (Book(), Book(*SQUARE), Book(*CUBE), Book(Clause("a", "b"))):
            for names in ([], ["a"], ["a", "b", "c"]):
                self.facts_are_checked(lambda facts: settle_through(book, names, facts))
