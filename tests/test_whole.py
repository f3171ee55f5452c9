"""Points 1 to 4 over the whole program."""

import unittest

from helper import TWELVE, choices, drawn_books, state, suiting
from renamedhorn.books import Book
from renamedhorn.clauses import Clause
from renamedhorn.desks import Desk
from renamedhorn.doors import least_door, settle_through, without
from renamedhorn.families import Family
from renamedhorn.following import follow, following, rest
from renamedhorn.forgetting import forget
from renamedhorn.leaving import least_left, left_out
from renamedhorn.literals import in_order
from renamedhorn.lowering import lowest
from renamedhorn.mixtures import Mixture
from renamedhorn.models import below, is_model, meet
from renamedhorn.needs import chain, is_chain, needs, reach
from renamedhorn.printing import book_text, mixture_text, weights_text
from renamedhorn.products import Product, all_turnings
from renamedhorn.refutations import Refutation
from renamedhorn.rings import Ring, apart_rings, first_ring, ring_at, ring_names
from renamedhorn.rules import chained, derivation, rounds, rules
from renamedhorn.saving import desk_text, read_desk
from renamedhorn.settling import can_hold, models, settle, settled
from renamedhorn.shares import Share
from renamedhorn.standings import sides, standing
from renamedhorn.turnings import Turning
from renamedhorn.values import game_value
from renamedhorn.weights import Weights

PLAIN = Book(Clause("a", "-b"), Clause("b", "-c"), Clause("d", "-a"))
SQUARE = Book(Clause("a", "b"), Clause("a", "-b"), Clause("-a", "b"), Clause("-a", "-b"))
BARRED = Book(Clause("a", "b", "c"), Clause("-a", "-b", "-c"))
STRANGE = [
    [], {}, set(), (), None, True, False, 0, 1, -1, 1000, 10 ** 70, "", "a", "-a", "A", "a b", b"a", ["a"], ("a",), ("-a",),
    {"a": 1}, object(), len, Share(1), Clause("a"), Clause(), Turning("a"), Turning(), Book(), Product.free("a"),
    Weights(a=1), Mixture(1), Family(["a"], [["a"]]), [[]], ([],), ((),), (("a",),),
]


def lists_told():
    """Calls that return lists, as functions of nothing."""
    family = Family(["a", "b"], [("a", "-b"), ("-a", "b")])
    return [
        lambda: in_order(["b", "a"]), lambda: needs(PLAIN, "a"), lambda: reach(PLAIN, "a"), lambda: chain(PLAIN, "a", "c"),
        lambda: chain(PLAIN, "a", "a"), lambda: ring_names(SQUARE), lambda: ring_names(PLAIN),
        lambda: all_turnings(PLAIN).factors(), lambda: Product.free().factors(), lambda: Weights(a=Share(1, 2)).halves(),
        lambda: rounds(PLAIN, Turning(), ["c"]), lambda: derivation(PLAIN, Turning(), "d", ["c"]),
        lambda: derivation(PLAIN, Turning(), "c", ["c"]), lambda: family.clauses(Turning("a")),
        lambda: [rule.number for rule in rules(PLAIN, Turning())], lambda: rules(Book(), Turning()),
        lambda: apart_rings(PLAIN), lambda: least_door(PLAIN).rings,
    ]


def told_of(ring):
    """All that a ring tells."""
    return None if ring is None else (ring.name, ring.there, ring.back)


def everything(book, facts):
    """What all functions tell of a book and facts, as far as it can be compared."""
    told, turnings, found = standing(book), all_turnings(book), [book_text(book), state(book)]
    found.append((told.kind, told.rings, told_of(told.ring), told.crowded))
    found.append(None if told.weights is None else weights_text(told.weights))
    found.append(None if told.mixture is None else mixture_text(told.mixture))
    found.append([turning.turned for turning in turnings.walk()])
    found.append([turning.turned for turning in sides(book).walk()])
    found.append([told_of(ring_at(book, name)) for name in book.names])
    found.append([told_of(ring) for ring in apart_rings(book)])
    found.append((follow(book, facts).steps, list(following(book, facts)), book_text(rest(book, follow(book, facts)))))
    answer = settle(book, facts)
    found.append((answer.model, list(models(book, facts)), can_hold(book, facts)))
    if answer.model is not None:
        found.append((settled(book, facts), is_model(book, answer.model)))
    for turning in list(turnings.walk())[:2]:
        found.append(([rule.body for rule in rules(book, turning)], rounds(book, turning, facts), chained(book, turning, facts)))
        if answer.model is not None:
            found.append(lowest(book, turning, facts))
    found.append((left_out(book), least_left(book).left, least_left(book).tree))
    found.append((least_door(book).taken, settle_through(book, list(book.names), facts).model))
    found.append([book_text(forget(book, name)) for name in book.names])
    found.append([list(Family.of(book, list(book.names))), list(Family.of(book, list(book.names)).corners(Turning("a")))])
    if len(book) <= 12:
        found.append((str(game_value(book).share), weights_text(game_value(book).weights)))
    return found


class WholeTest(unittest.TestCase):
    def test_in_raises_no_error(self):
        family = Family(["a"], [["a"]])
        for held in (Clause("a"), Clause(), Turning("a"), Turning(), PLAIN, Book(), Product.free("a"), Product.free(),
                     Weights(a=1), Weights(), Mixture(1), Mixture(), follow(PLAIN, ["a"]), family, Family([], [[]])):
            for thing in STRANGE:
                self.assertIs(type(thing in held), bool)
        for held, thing in ((Clause("a"), "a"), (Turning("a"), "a"), (PLAIN, 1), (Product.free("a"), Turning("a")),
                            (Weights(a=1), "a"), (Mixture(1), 1), (follow(PLAIN, ["a"]), "a"), (family, ("a",))):
            self.assertIs(thing in held, True)
            self.assertEqual([other for other in STRANGE if other in held and other != thing], self.more_in(held))

    def more_in(self, held):
        """What else of the strange things is in an object that is looked at."""
        return [Turning()] if isinstance(held, Product) else []

    def test_true_is_no_number_and_no_share(self):
        for held in (PLAIN, Mixture(1)):
            self.assertIs(True in held, False)
        self.assertIs(Share(1) == True, False)

    def test_every_list_is_new(self):
        for call in lists_told():
            first, second = call(), call()
            self.assertIs(type(first), list)
            kept = list(second)
            first.clear()
            first.append("x")
            self.assertEqual(len(second), len(kept))
            self.assertEqual(second, kept)
            self.assertEqual(len(call()), len(kept))

    def test_no_object_keeps_a_list(self):
        links = chain(SQUARE, "a", "-a")
        back = chain(SQUARE, "-a", "a")
        ring = Ring("a", links, back)
        steps = [(1, "a"), (2, None)]
        paper = Refutation(steps)
        names, turnings, pairs = ["a", "b"], [Turning("a")], [(3, Clause("a"))]
        hull, weights, book = Product.hull(names, turnings), Weights.of(Turning("a"), names), Book.numbered(pairs)
        rows = [["a", "b"]]
        family = Family(names, rows)
        left = without(PLAIN, names)
        facts = ["a"]
        trail = follow(PLAIN, facts)
        for given in (links, back, steps, names, turnings, pairs, rows[0], rows, facts):
            given.clear()
        self.assertTrue(ring.bars(SQUARE))
        self.assertEqual(paper.steps, ((1, "a"), (2, None)))
        self.assertEqual((hull.names, hull.many, list(weights), list(book)), (("a", "b"), 1, ["a", "b"], [3]))
        self.assertEqual((list(family), family.names), ([("a", "b")], ("a", "b")))
        self.assertEqual((book_text(left), trail.facts, trail.held), ("1 0\n2 -c\n3 d", ("a",), ("a", "d")))

    def test_arguments_are_not_modified(self):
        names, facts, literals = ["b", "a", "b"], ["d", "-b", "d"], ["-b", "a", "c"]
        turnings, links = [Turning("b"), Turning()], chain(PLAIN, "a", "c")
        pairs, rows = [(2, Clause("a")), (5, Clause("b"))], [["b", "a"], ("-b", "a")]
        given = (names, facts, literals, turnings, links, pairs, rows)
        before = [list(part) for part in given]
        Product.hull(names, turnings)
        Weights.of(Turning("a"), names)
        Family(names, rows)
        Family.of(Book(Clause("a")), names)
        Book.numbered(pairs)
        in_order(literals)
        is_chain(PLAIN, "a", "c", links)
        without(PLAIN, names)
        settle_through(PLAIN, names, facts)
        for call in (follow, settle, can_hold, settled):
            call(PLAIN, facts)
        list(models(PLAIN, facts)), list(following(PLAIN, facts))
        lowest(PLAIN, Turning(), facts), rounds(PLAIN, Turning(), facts), chained(PLAIN, Turning(), facts)
        derivation(PLAIN, Turning(), "d", facts)
        is_model(PLAIN, literals), below(Turning(), literals, facts), meet(Turning(), literals, ["a", "c", "b"])
        Refutation([(1, "a"), (2, None)]).refutes(PLAIN, facts)
        self.assertEqual([list(part) for part in given], before)
        self.assertEqual(rows, [["b", "a"], ("-b", "a")])

    def test_the_same_answers_each_time(self):
        for book in [SQUARE, BARRED, PLAIN, *drawn_books(40, 12, TWELVE[:4], 8, [1, 2, 2, 3])]:
            for facts in ([], ["-a", "z"]):
                before = state(book)
                self.assertEqual(everything(book, facts), everything(book, tuple(facts)))
                self.assertEqual(everything(book, facts), everything(book.copy(), facts))
                self.assertEqual(state(book), before)

    def test_the_same_for_a_desk_that_comes_to_the_same_book_in_another_way(self):
        for book in drawn_books(41, 20, TWELVE[:4], 6, [1, 2, 2, 3]):
            desk = Desk(*[book[number] for number in book])
            desk.edit(*[("put", Clause("x", "y"))] * 3)
            desk.fact("z")
            for _ in range(2):
                desk.undo()
            self.assertEqual(everything(desk.book, []), everything(Book(*[book[number] for number in book]), []))
            self.assertEqual(desk_text(read_desk(desk_text(desk))), desk_text(desk))
            self.assertEqual(desk.current is None, not suiting(book))

    def test_what_the_program_is_for(self):
        """A turning that suits a book makes following settle every question about it (point 1)."""
        for book in drawn_books(42, 40, TWELVE[:4], 6, [1, 2, 2, 3]):
            if suiting(book):
                for choice in choices(book.names):
                    self.assertIs(can_hold(book, choice), is_model(book, choice))
                    self.assertIs(follow(book, choice).broken is None, is_model(book, choice))
