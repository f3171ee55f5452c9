"""Points 59 and 63: what is a model, what is below, and meets."""

import random

from helper import Case, NO_LITERALS, TWELVE, choices, drawn_books, drawn_facts, holds, models_by_hand, opposite, suiting
from renamedhorn.books import Book
from renamedhorn.clauses import Clause
from renamedhorn.errors import BadLiteral, BothSigns, OtherNames
from renamedhorn.literals import in_order, name_of
from renamedhorn.models import below, is_model, meet
from renamedhorn.turnings import Turning


def is_model_by_hand(book, literals):
    """Tell by the words of point 59 whether literals are a model of a book."""
    names = {name_of(literal) for literal in literals}
    one_sign = len(names) == len(set(literals))
    return one_sign and set(book.names) <= names and holds(literals, book)


def drawn_turning(draw):
    """A turning of drawn names, some of which no list here has."""
    return Turning(*draw.sample([*"abcde", "y", "z", "x9"], draw.randint(0, 6)))


def meet_by_hand(turning, one, other):
    """The meet of two lists by the words of point 63."""
    met = []
    for literal in one:
        said_no = [part for part in (literal, opposite(literal)) if turning(part).startswith("-")]
        met.append(literal if literal in other else said_no[0])
    return tuple(in_order(met))


class IsModelTest(Case):
    def test_against_the_definition(self):
        draw = random.Random(59)
        found = []
        for book in drawn_books(590, 60, TWELVE[:4], 6, [1, 2, 2, 3]):
            for choice in choices(TWELVE[:4]):
                literals = list(choice)
                if draw.random() < 0.2:
                    literals.append(draw.choice(literals))
                if draw.random() < 0.2:
                    literals.append(draw.choice(["-", ""]) + draw.choice("abyz"))
                if draw.random() < 0.2:
                    literals.pop(draw.randrange(len(literals)))
                draw.shuffle(literals)
                for kind in (list, tuple):
                    given = kind(literals)
                    found.append(is_model(book, given))
                    self.assertIs(found[-1], is_model_by_hand(book, literals), (str(book), literals))
                    self.assertEqual(given, kind(literals))
        self.assertGreater(found.count(True), 50)
        self.assertGreater(found.count(False), 50)

    def test_each_model_by_hand(self):
        draw = random.Random(591)
        for book in drawn_books(592, 30, TWELVE[:4], 6, [1, 2, 2, 3]):
            for facts in ([], drawn_facts(draw, book.names, 2)):
                for model in models_by_hand(book, facts):
                    self.assertIs(is_model(book, model), True)
                    self.assertIs(is_model(book, list(model)[::-1]), True)

    def test_known_by_hand(self):
        book = Book(Clause("a", "b"), Clause("-b", "c"))
        self.assertIs(is_model(book, ["c", "b", "-a"]), True)
        self.assertIs(is_model(book, ("c", "b", "c", "-a", "b")), True)
        self.assertIs(is_model(book, ["z", "c", "-y", "b", "a"]), True)
        self.assertIs(is_model(book, ["c", "b"]), False)
        self.assertIs(is_model(book, ["a", "c", "z"]), False)
        self.assertIs(is_model(book, ["a", "-b", "b", "c"]), False)
        self.assertIs(is_model(book, ["a", "b", "c", "z", "-z"]), False)
        self.assertIs(is_model(book, ["-a", "-b", "c"]), False)
        self.assertIs(is_model(book, []), False)

    def test_empty_clauses_and_books(self):
        self.assertIs(is_model(Book(), []), True)
        self.assertIs(is_model(Book(), ()), True)
        self.assertIs(is_model(Book(), ["b", "-a"]), True)
        self.assertIs(is_model(Book(), ["b", "-b"]), False)
        self.assertIs(is_model(Book(Clause()), []), False)
        self.assertIs(is_model(Book(Clause("a"), Clause()), ["a"]), False)

    def test_more_than_twelve_literals(self):
        names = [sign + "1" for sign in "abcdefghijklmnopqrstuvwxyz"]
        self.assertIs(is_model(Book(Clause("a1", "-z1")), names), True)
        self.assertIs(is_model(Book(Clause("-a1", "-z1")), names), False)

    def test_bad_literals(self):
        for book in (Book(), Book(Clause("a")), Book(Clause())):
            for text in NO_LITERALS:
                self.refused(BadLiteral, is_model, book, ["b", "-b", text, "B"], text=text)
                self.refused(BadLiteral, is_model, book, (text,), text=text)


class BelowTest(Case):
    def test_against_the_definition(self):
        draw = random.Random(63)
        found = []
        for _ in range(600):
            turning = drawn_turning(draw)
            one, other = [drawn_facts(draw, "abc", 4) for _ in range(2)]
            other = other + [literal for literal in one if draw.random() < 0.7]
            draw.shuffle(other)
            expected = True
            for literal in one:
                if not turning(literal).startswith("-") and literal not in other:
                    expected = False
            for kind in (list, tuple):
                found.append(below(turning, kind(one), kind(other)))
                self.assertIs(found[-1], expected)
        self.assertGreater(found.count(True), 100)
        self.assertGreater(found.count(False), 100)

    def test_known_by_hand(self):
        self.assertIs(below(Turning(), ["-a", "-b"], ["a", "b"]), True)
        self.assertIs(below(Turning(), ["a", "-b"], ["-a", "b"]), False)
        self.assertIs(below(Turning("a"), ["a", "-b"], ["-a", "b"]), True)
        self.assertIs(below(Turning("a"), ["-a"], []), False)
        self.assertIs(below(Turning("a"), [], []), True)
        self.assertIs(below(Turning("z"), ("a", "-a", "a"), ("-c", "a")), True)
        self.assertIs(below(Turning("z"), ("-z",), ("z",)), False)

    def test_bad_literals(self):
        for text in NO_LITERALS:
            self.refused(BadLiteral, below, Turning(), ["b", text, "B"], ["C"], text=text)
            self.refused(BadLiteral, below, Turning(), ("b",), ("c", text, "B"), text=text)
            self.refused(BadLiteral, below, Turning(), [], [text], text=text)


class MeetTest(Case):
    def test_against_the_definition(self):
        draw = random.Random(630)
        for _ in range(300):
            names = draw.sample("abcde", draw.randint(0, 5))
            turning = drawn_turning(draw)
            one, other = [[draw.choice(["", "-"]) + name for name in draw.sample(names, len(names))] for _ in range(2)]
            expected = meet_by_hand(turning, one, other)
            for kind in (list, tuple):
                given = kind(one), kind(other)
                self.assertEqual(meet(turning, *given), expected)
                self.assertEqual(given, (kind(one), kind(other)))
            self.assertEqual(meet(turning, other, one + one), expected)
            self.assertIs(below(turning, expected, one) and below(turning, expected, other), True)

    def test_known_by_hand(self):
        self.assertEqual(meet(Turning("b", "z"), ["c", "-b", "a"], ("-a", "b", "c")), ("-a", "b", "c"))
        self.assertEqual(meet(Turning(), ["c", "-b", "a"], ("-a", "b", "c")), ("-a", "-b", "c"))
        self.assertEqual(meet(Turning(*"abc"), ["c", "-b", "a"], ("-a", "b", "c")), ("a", "b", "c"))
        self.assertEqual(meet(Turning("a"), [], ()), ())

    def test_meets_of_models(self):
        draw = random.Random(631)
        many = 0
        for book in drawn_books(632, 60, TWELVE[:4], 5, [1, 2, 2, 3]):
            for turned in suiting(book):
                turning = Turning(*turned, "x9", "z")
                facts = drawn_facts(draw, book.names, 1)
                rows = models_by_hand(book, facts)
                for one in rows[:6]:
                    for other in rows[-6:]:
                        many += 1
                        self.assertIn(meet(turning, one, other), rows)
        self.assertGreater(many, 500)

    def test_bad_literals(self):
        for text in NO_LITERALS:
            self.refused(BadLiteral, meet, Turning(), ["b", "-b", text, "B"], ["C"], text=text)
            self.refused(BadLiteral, meet, Turning(), ["b", "-b"], ["c", "-c", text, "B"], text=text)

    def test_both_signs(self):
        self.refused(BothSigns, meet, Turning(), ["d", "-c", "-d", "c"], ["-b", "b"], name="c")
        self.refused(BothSigns, meet, Turning(), ["c"], ["d", "b", "-d", "-b"], name="b")
        self.refused(BothSigns, meet, Turning("a"), [], ("-a", "a"), name="a")

    def test_other_names(self):
        self.refused(OtherNames, meet, Turning(), ["a"], [])
        self.refused(OtherNames, meet, Turning(), ["a", "b"], ["b", "c"])
        self.refused(OtherNames, meet, Turning(), ["a"], ["-a", "b"])
        self.refused(OtherNames, meet, Turning(), ("a", "b"), ("-b",))
