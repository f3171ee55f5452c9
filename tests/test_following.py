"""Points 55 to 58: following."""

import itertools
import random

from helper import Case, NO_LITERALS, TWELVE, both, drawn_books, drawn_facts, opposite, state, suiting
from renamedhorn.books import Book
from renamedhorn.clauses import Clause
from renamedhorn.errors import BadLiteral, NotHeld
from renamedhorn.following import Trail, follow, following, rest
from renamedhorn.literals import in_order
from renamedhorn.shares import Share
from renamedhorn.turnings import Turning
from renamedhorn.weights import Weights

ENDS = [
    # The book, the facts, the steps and where the following is broken.
    (Book(), [], (), None),
    (Book(Clause("a", "b")), [], (), None),
    (Book(Clause("-a", "b"), Clause("a")), [], ((2, "a"), (1, "b")), None),
    (Book(Clause("c"), Clause("b"), Clause("-b", "-c", "a")), [], ((1, "c"), (2, "b"), (3, "a")), None),
    (Book(Clause("-b", "-c", "a"), Clause("b"), Clause("c")), [], ((2, "b"), (3, "c"), (1, "a")), None),
    (Book(Clause("-a", "b"), Clause("-a", "c"), Clause("-b", "d")), ["a"], ((1, "b"), (2, "c"), (3, "d")), None),
    (Book(Clause("-c", "d"), Clause("-a", "c"), Clause("-a", "b")), ["a"], ((2, "c"), (1, "d"), (3, "b")), None),
    (Book(Clause("a"), Clause(), Clause("b")), [], ((1, "a"),), 2),
    (Book(Clause(), Clause("a")), ["q"], (), 1),
    (Book(Clause("a"), Clause("b"), Clause("-a", "-b"), Clause("c")), [], ((1, "a"), (2, "b")), 3),
    (Book(Clause("a"), Clause("-a")), [], ((1, "a"),), 2),
    (Book(Clause("a"), Clause("a")), [], ((1, "a"),), None),
    (Book(Clause("-a", "-b"), Clause("c")), ["b", "a"], (), 1),
    (Book(Clause("-a"), Clause("b")), ("a", "z"), (), 1),
    (Book(Clause("a", "-q"), Clause("-a", "b")), ["q", "-z"], ((1, "a"), (2, "b")), None),
]


def following_by_hand(book, facts):
    """The steps and where it is broken, straight from the words of point 56."""
    held = set(facts)
    steps = []
    while True:
        ready = []
        for number in book:
            holding = [part for part in book[number] if part in held]
            left = [part for part in book[number] if opposite(part) not in held]
            if not holding and len(left) <= 1:
                ready.append((number, left))
        if not ready:
            return tuple(steps), None
        number, left = ready[0]
        if not left:
            return tuple(steps), number
        steps.append((number, left[0]))
        held.add(left[0])


def cases():
    """Books with facts of many kinds."""
    draw = random.Random(55)
    books = [
        *drawn_books(55, 80, TWELVE[:4], 7, [0, 1, 1, 2, 2, 3]),
        *drawn_books(56, 80, TWELVE[:6], 10, [1, 2, 2, 3, 3]),
        *drawn_books(57, 30, TWELVE, 24, [1, 2, 2, 3, 6]),
    ]
    return [(book, drawn_facts(draw, book.names, 3)) for book in books]


class FollowTest(Case):
    def look_at(self, book, facts, steps, broken):
        """Assert all that a trail tells."""
        before, given = state(book), list(facts)
        trail = follow(book, facts)
        self.assertIs(type(trail), Trail)
        self.assertEqual((trail.facts, trail.steps, trail.broken), (tuple(in_order(given)), steps, broken))
        self.assertEqual(set(vars(trail)) & {"facts", "steps", "broken"}, {"facts", "steps", "broken"})
        self.assertEqual([type(trail.facts), type(trail.steps), type(trail.held)], [tuple] * 3)
        held = in_order([*given, *[literal for _, literal in steps]])
        self.assertEqual(trail.held, tuple(held))
        self.assertEqual((len(trail), list(trail)), (len(steps), list(steps)))
        for literal in both([*book.names, "q", "x9"]):
            self.assertIs(literal in trail, literal in held)
        self.assertEqual((state(book), list(facts)), (before, given))
        ends = [(broken, None)] if broken is not None else []
        self.assertEqual(list(following(book, facts)), [*steps, *ends])

    def test_known_by_hand(self):
        for book, facts, steps, broken in ENDS:
            self.look_at(book, facts, steps, broken)
            self.look_at(book, tuple(facts), steps, broken)

    def test_against_the_words(self):
        broken = set()
        for book, facts in cases():
            self.look_at(book, facts, *following_by_hand(book, facts))
            broken.add(follow(book, facts).broken is None)
        self.assertEqual(broken, {True, False})

    def test_facts_twice_and_of_other_names(self):
        trail = follow(Book(Clause("-a", "b")), ["zz", "a", "-y", "a", "zz"])
        self.assertEqual((trail.facts, trail.steps), (("a", "-y", "zz"), ((1, "b"),)))
        self.assertEqual(trail.held, ("a", "b", "-y", "zz"))

    def test_no_facts(self):
        book = Book(Clause("a"))
        self.assertEqual(follow(book).steps, ((1, "a"),))
        self.assertEqual(follow(book).facts, ())
        self.assertEqual(list(following(book)), [(1, "a")])

    def test_errors_of_the_facts(self):
        book = Book(Clause("a"))
        self.facts_are_checked(lambda facts: follow(book, facts))
        self.facts_are_checked(lambda facts: list(following(book, facts)))
        self.facts_are_checked(lambda facts: next(iter(following(Book(), facts)), None))

    def test_twelve_facts(self):
        book = Book(Clause("-l", "m"))
        self.assertEqual(follow(book, TWELVE).steps, ((1, "m"),))
        self.assertEqual(follow(book, TWELVE + TWELVE[::-1]).facts, tuple(TWELVE))
        self.assertEqual(list(following(book, TWELVE)), [(1, "m")])

    def test_the_lowest_number_first(self):
        book = Book.numbered([(4, Clause("-a", "b")), (9, Clause("c")), (100, Clause("a")), (101, Clause("-b"))])
        trail = follow(book)
        self.assertEqual((trail.steps, trail.broken), (((9, "c"), (100, "a"), (4, "b")), 101))

    def test_the_facts_are_not_kept(self):
        facts = ["b", "a"]
        trail = follow(Book(), facts)
        facts.clear()
        self.assertEqual(trail.facts, ("a", "b"))


class TrailTest(Case):
    def test_why(self):
        for book, facts in cases():
            trail = follow(book, facts)
            numbers = {literal: number for number, literal in trail.steps}
            for literal in both([*book.names, "q", "x9"]):
                if literal in facts:
                    self.assertIsNone(trail.why(literal))
                elif literal in numbers:
                    self.assertEqual(trail.why(literal), numbers[literal])
                else:
                    self.refused(NotHeld, trail.why, literal, literal=literal)

    def test_why_of_what_is_no_literal(self):
        trail = follow(Book(Clause("a")), ["b"])
        for text in NO_LITERALS:
            self.refused(BadLiteral, trail.why, text, text=text)
        self.refused(NotHeld, trail.why, "-a", literal="-a")
        self.refused(NotHeld, trail.why, "q", literal="q")

    def test_in(self):
        trail = follow(Book(Clause("a")), ["-b"])
        for other in ("-a", "b", "", "A", 1, None, [], {}, ("a",), (1, "a"), Share(1), Clause("a"), trail):
            self.assertIs(other in trail, False)
        self.assertIs("a" in trail, True)
        self.assertIs("-b" in trail, True)


class FollowingTest(Case):
    def test_not_asked_to_its_end(self):
        book = Book(Clause("a"), Clause("-a", "b"), Clause("-b"))
        steps = following(book)
        self.assertEqual([next(steps), next(steps)], [(1, "a"), (2, "b")])
        self.assertEqual(list(steps), [(3, None)])
        self.assertEqual(next(following(book)), (1, "a"))
        self.assertEqual(list(itertools.islice(following(book), 1)), [(1, "a")])


class RestTest(Case):
    def test_against_the_words(self):
        for book, facts in cases():
            before, trail = state(book), follow(book, facts)
            left = rest(book, trail)
            expected = {
                number: Clause(*[part for part in book[number] if opposite(part) not in trail.held])
                for number in book
                if not set(book[number]) & set(trail.held)
            }
            self.assertIs(type(left), Book)
            self.assertEqual({number: left[number] for number in left}, expected)
            self.assertEqual(left.next_number, book.next_number)
            self.assertEqual(state(book), before)
            if trail.broken is None:
                self.assertTrue(all(len(left[number]) >= 2 for number in left))
            else:
                self.assertEqual(left[trail.broken], Clause())

    def test_the_next_number(self):
        book = Book(Clause("a"), Clause("b", "c"), Clause("d"))
        book.drop(3)
        left = rest(book, follow(book))
        self.assertEqual(state(left), ([(2, "b | c")], ("b", "c"), 4, 1))
        self.assertEqual(left.put(Clause("z")), 4)
        self.assertEqual(state(book), ([(1, "a"), (2, "b | c")], ("a", "b", "c"), 4, 2))

    def test_broken_and_empty(self):
        book = Book(Clause("a", "b"), Clause(), Clause("-a", "c"))
        left = rest(book, follow(book, ["a"]))
        self.assertEqual(state(left), ([(2, "0"), (3, "c")], ("c",), 4, 2))
        self.assertEqual(state(rest(Book(), follow(Book(), ["a"]))), ([], (), 1, 0))

    def test_the_trail_of_another_book(self):
        trail = follow(Book(Clause("a"), Clause("-a", "b")))
        left = rest(Book(Clause("-a", "-b"), Clause("-b", "c"), Clause("a", "d")), trail)
        self.assertEqual(state(left), ([(1, "0"), (2, "c")], ("c",), 4, 2))

    def test_what_suits_and_what_fits(self):
        draw = random.Random(58)
        fitting = 0
        for book, facts in cases():
            left = rest(book, follow(book, facts))
            if len(book.names) <= 6:
                for turned in suiting(book):
                    self.assertTrue(all(Turning(*turned).suits(left[number]) for number in left))
            for _ in range(4):
                weights = Weights(**{name: Share(draw.randint(0, 4), 4) for name in book.names})
                if weights.fits(book):
                    fitting += 1
                    self.assertIs(weights.fits(left), True)
        self.assertGreater(fitting, 20)
