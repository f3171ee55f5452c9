"""Points 59, 61 and 62: models, answers and what is settled."""

import itertools
import random

from helper import (
    Case, TWELVE, drawn_books, drawn_facts, drawn_halved_books, models_by_hand, parts_of, says_yes, state, suiting,
)
from renamedhorn.books import Book
from renamedhorn.clauses import Clause
from renamedhorn.following import follow
from renamedhorn.literals import in_order, name_of
from renamedhorn.refutations import Refutation
from renamedhorn.settling import Answer, can_hold, models, settle, settled
from renamedhorn.standings import standing

SQUARE = [Clause("a", "b"), Clause("a", "-b"), Clause("-a", "b"), Clause("-a", "-b")]
CUBE = [Clause(*[sign + name for sign, name in zip(signs, "abc")]) for signs in itertools.product(["", "-"], repeat=3)]
MOST_DEEP = {"plain": 0, "halved": 1, "barred": 12}


def cases():
    """Books of all kinds with facts, with models and without."""
    draw = random.Random(61)
    books = [
        Book(), Book(Clause()), Book(*SQUARE), Book(*CUBE), Book(*CUBE[1:]), Book(*CUBE, *SQUARE, Clause("d", "e")),
        *drawn_books(610, 60, TWELVE[:3], 10, [1, 2, 2, 3]),
        *drawn_books(611, 60, TWELVE[:5], 14, [1, 2, 2, 3]),
        *drawn_books(612, 60, TWELVE[:5], 24, [2, 3, 3]),
        *drawn_books(613, 30, TWELVE[:6], 24, [2, 2, 3]),
        *drawn_halved_books(614, 60),
    ]
    return [(book, facts) for book in books for facts in ([], drawn_facts(draw, book.names, 2))]


class SettleTest(Case):
    def look_at(self, book, facts):
        """Assert all that point 61 says, and tell the kind of the book and the depth of a refutation."""
        before, given = state(book), list(facts)
        answer = settle(book, facts)
        self.assertEqual((state(book), list(facts)), (before, given))
        self.assertIs(type(answer), Answer)
        self.assertEqual(set(vars(answer)), {"model", "paper"})
        found = models_by_hand(book, facts)
        told = standing(book)
        if found:
            self.assertIsNone(answer.paper)
            self.assertIs(type(answer.model), tuple)
            self.assertIn(answer.model, found)
            if told.kind == "plain":
                self.look_at_lowest(book, facts, answer.model, found)
            return told.kind, None
        self.assertIsNone(answer.model)
        self.assertIs(type(answer.paper), Refutation)
        self.assertIs(answer.paper.refutes(book, facts), True)
        self.assertLessEqual(answer.paper.depth, MOST_DEEP[told.kind])
        for part in parts_of(answer.paper):
            self.assertLessEqual(len(part.steps), 25)
        return told.kind, answer.paper.depth

    def look_at_lowest(self, book, facts, model, found):
        """Assert that a model is below every model under the first turning that suits the book."""
        turned = suiting(book)[0]
        yes = {literal for literal in model if says_yes(turned, literal)}
        for other in found:
            self.assertLessEqual(yes, set(other))
        held = follow(book, facts).held
        names = [name for name in book.names if name not in [name_of(literal) for literal in held]]
        no = ["-" * (name not in turned) + name for name in names]
        self.assertEqual(model, tuple(in_order([*held, *no])))

    def test_against_all_choices(self):
        kinds = [self.look_at(book, facts) for book, facts in cases()]
        for kind, depth in (
            ("plain", None), ("plain", 0), ("halved", None), ("halved", 0), ("halved", 1),
            ("barred", None), ("barred", 0), ("barred", 1), ("barred", 2),
        ):
            with self.subTest(kind=kind, depth=depth):
                self.assertGreater(kinds.count((kind, depth)), 1)

    def test_books_of_twelve_names(self):
        kinds = [self.look_at(book, []) for book in drawn_books(615, 15, TWELVE, 24, [1, 2, 2, 3])]
        self.assertGreater(len(set(kinds)), 1)

    def test_tuples_and_repeated_facts(self):
        book = Book(Clause("-a", "b"), Clause("c", "-d"))
        self.look_at(book, ("z", "a", "z"))
        self.assertEqual(settle(book, ("z", "a", "z")).model, settle(book, ["a", "z"]).model)

    def test_known_by_hand(self):
        self.assertEqual(settle(Book()).model, ())
        self.assertEqual(settle(Book(), ["b", "-a"]).model, ("-a", "b"))
        self.assertEqual(settle(Book(Clause())).paper.steps, ((1, None),))
        self.assertEqual(settle(Book(Clause("-a", "b"), Clause("-c"))).model, ("-a", "-b", "-c"))
        self.assertEqual(settle(Book(Clause("a", "b"))).model, ("-a", "b"))
        self.assertEqual(settle(Book(Clause("a", "b"), Clause("c", "d"))).model, ("-a", "b", "-c", "d"))
        self.assertEqual(settle(Book(*SQUARE)).paper.depth, 1)

    def test_twelve_facts(self):
        book = Book(*[Clause("x", "y"), Clause("x", "-y"), Clause("-x", "y"), Clause("-x", "-y", "-a")])
        self.look_at_big(book, TWELVE)
        book = Book(*[Clause("x", "y"), Clause("x", "-y"), Clause("-x", "y"), Clause("-x", "-y", "a")])
        self.assertEqual(settle(book, TWELVE).model, (*TWELVE, "x", "y"))
        self.assertEqual(list(models(book, TWELVE)), [(*TWELVE, "x", "y")])
        self.assertEqual(settled(book, TWELVE), (*TWELVE, "x", "y"))

    def look_at_big(self, book, facts):
        answer = settle(book, facts)
        self.assertIsNone(answer.model)
        self.assertIs(answer.paper.refutes(book, facts), True)
        self.assertEqual(list(models(book, facts)), [])
        self.refused_by_paper(settled, book, facts)


class ModelsTest(Case):
    def test_against_all_choices(self):
        for book, facts in cases():
            before, found = state(book), models_by_hand(book, facts)
            self.assertEqual(list(models(book, facts)), found)
            self.assertIs(can_hold(book, facts), bool(found))
            if not found:
                paper = self.refused_by_paper(settled, book, facts)
                self.assertLessEqual(paper.depth, MOST_DEEP[standing(book).kind])
                continue
            common = set(found[0]).intersection(*found)
            self.assertEqual(settled(book, facts), tuple(in_order(list(common))))
            self.assertIs(type(settled(book, facts)), tuple)
            self.assertEqual(state(book), before)

    def test_the_first_ones(self):
        book = Book(*[Clause(name, "-" + name + "1") for name in "abcdef"])
        rows = models(book)
        self.assertEqual(next(rows), tuple(in_order([*"abcdef", *[name + "1" for name in "abcdef"]])))
        self.assertEqual(list(itertools.islice(models(book), 3)), models_by_hand(book, [])[:3])
        self.assertEqual(list(itertools.islice(models(book, ["-f"]), 1)), models_by_hand(book, ["-f"])[:1])

    def test_the_order_of_models(self):
        self.assertEqual(list(models(Book(Clause("a", "b")))), [("a", "b"), ("a", "-b"), ("-a", "b")])
        self.assertEqual(list(models(Book(Clause("b")), ["-a", "c"])), [("-a", "b", "c")])
        self.assertEqual(list(models(Book())), [()])
        self.assertEqual(list(models(Book(), ["-b", "a"])), [("a", "-b")])
        self.assertEqual(list(models(Book(Clause()))), [])

    def test_settled_by_hand(self):
        self.assertEqual(settled(Book()), ())
        self.assertEqual(settled(Book(Clause("a", "b"), Clause("a", "-b"))), ("a",))
        self.assertEqual(settled(Book(Clause("a", "b")), ["-b", "z"]), ("a", "-b", "z"))

    def test_without_facts(self):
        book = Book(Clause("a"))
        self.assertEqual((settled(book), list(models(book)), can_hold(book)), (("a",), [("a",)], True))

    def test_errors_of_the_facts(self):
        for book in (Book(), Book(Clause("a", "b")), Book(Clause()), Book(*SQUARE), Book(*CUBE)):
            self.facts_are_checked(lambda facts: settle(book, facts))
            self.facts_are_checked(lambda facts: can_hold(book, facts))
            self.facts_are_checked(lambda facts: settled(book, facts))
            self.facts_are_checked(lambda facts: next(iter(models(book, facts)), None))
