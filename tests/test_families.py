"""Points 80 to 85: families of choices."""

import itertools
import random

from helper import (
    Case, NO_LITERALS, NO_NAMES, TWELVE, choices, drawn_books, drawn_clause, holds, says_yes, state, subsets,
    suiting,
)
from renamedhorn.books import Book
from renamedhorn.clauses import Clause
from renamedhorn.errors import BadLiteral, BadName, BothSigns, NoName, NotClosed, OtherNames, TooMany
from renamedhorn.families import Family
from renamedhorn.models import meet
from renamedhorn.products import Product
from renamedhorn.settling import models
from renamedhorn.turnings import Turning

NONE, ONE = Family([], []), Family([], [()])


def drawn_families(seed, many, most):
    """Families over up to so many names, always the same ones for a seed, with lists of their choices."""
    draw = random.Random(seed)
    found = [NONE, ONE]
    for _ in range(many):
        names = draw.sample(TWELVE[:6], draw.randint(1, most))
        rows = choices(sorted(names))
        found.append(Family(names, draw.sample(rows, draw.randint(0, min(len(rows), draw.choice([3, 6, 64]))))))
    return found


def drawn_turned(draw, names):
    """Names of a drawn turning, some of which a family does not have."""
    return tuple(name for name in [*names, "x", "zz"] if draw.random() < 0.5)


def met(turned, one, other):
    """The meet of two choices by the words of point 83."""
    return tuple(a if a == b or not says_yes(turned, a) else b for a, b in zip(one, other))


def closed_by_hand(rows, turned):
    """Tell whether the meet of each two choices is among them."""
    return all(met(turned, one, other) in rows for one in rows for other in rows)


def span_by_hand(rows, turned):
    """All choices to which meets lead from some."""
    found = set(rows)
    while not closed_by_hand(found, turned):
        found |= {met(turned, one, other) for one in found for other in found}
    return found


def in_order_of_models(names, rows):
    """Choices over names in their order."""
    return [choice for choice in choices(sorted(set(names))) if choice in rows]


def suited_clauses(names, turned):
    """All clauses over names that the turning of some names suits, as tuples of literals."""
    for signs in itertools.product(["", "-", None], repeat=len(names)):
        literals = tuple(sign + name for sign, name in zip(signs, names) if sign is not None)
        if len([literal for literal in literals if says_yes(turned, literal)]) <= 1:
            yield literals


def has_each(choice, clauses):
    """Tell whether a choice has a literal of each clause."""
    return all(any(literal in choice for literal in clause) for clause in clauses)


class FamilyCase(Case):
    def same(self, family, names, rows):
        """Assert that a family has just these names and choices."""
        self.assertIs(type(family), Family)
        self.assertEqual(family.names, tuple(names))
        self.assertEqual(list(family), in_order_of_models(names, rows))
        self.assertEqual(len(family), len(set(rows)))
        self.assertEqual(family, Family(list(names), list(rows)))


class MakingTest(FamilyCase):
    def test_names_and_choices_in_any_order(self):
        family = Family(["b", "a", "b"], [["-b", "a"], ("a", "b", "a"), ("a", "-b"), ["-b", "a", "-b", "a"]])
        self.assertEqual(family.names, ("a", "b"))
        self.assertEqual(list(family), [("a", "b"), ("a", "-b")])
        self.assertEqual(len(family), 2)
        self.assertEqual({type(choice) for choice in family}, {tuple})
        self.assertIs(type(family.names), tuple)

    def test_the_lists_are_not_kept(self):
        names, rows = ["b", "a"], [["a", "b"], ["-a", "b"]]
        family = Family(names, rows)
        self.assertEqual((names, rows), (["b", "a"], [["a", "b"], ["-a", "b"]]))
        names.append("c")
        rows[0][0] = "-a"
        rows.clear()
        self.same(family, "ab", [("a", "b"), ("-a", "b")])

    def test_over_no_names(self):
        self.assertEqual((NONE.names, list(NONE), len(NONE)), ((), [], 0))
        self.assertEqual((ONE.names, list(ONE), len(ONE)), ((), [()], 1))
        self.assertEqual(list(Family([], [[], (), ()])), [()])
        self.assertNotEqual(NONE, ONE)
        self.refused(OtherNames, Family, [], [["a"]])

    def test_limits(self):
        self.assertEqual(len(Family(list("abcdef") * 2, choices("abcdef"))), 64)
        self.refused(TooMany, Family, list("abcdefg"), [], limit=6)
        self.refused(TooMany, Family, list("abcdefg"), [["A"]], limit=6)

    def test_errors_in_their_order(self):
        for text in NO_NAMES:
            self.refused(BadName, Family, [*"abcdefgh", text, "B"], [["A"]], text=text)
        for text in NO_LITERALS:
            self.refused(BadLiteral, Family, ["a"], [["a"], ("b", "-b", text, "B"), ["C"]], text=text)
        self.refused(BothSigns, Family, ["a"], [["a"], ["c", "-b", "-c", "b", "d"], ["A"]], name="b")
        self.refused(OtherNames, Family, ["a"], [("a",), ("-b",), ("A",), ("a", "-a")])
        self.refused(OtherNames, Family, ["a", "b"], [("a",)])
        self.refused(OtherNames, Family, ["a", "b"], [("a", "b", "-c")])
        self.refused(OtherNames, Family, ["a", "b"], [()])
        self.refused(BothSigns, Family, ["a", "b"], [("a", "-a")], name="a")

    def test_limit_and_class_value(self):
        self.assertEqual(Family.LIMIT, 6)


class SetTest(FamilyCase):
    def test_what_is_in_a_family(self):
        family = Family(["a", "b"], [("a", "b"), ("-a", "b")])
        self.assertIn(("a", "b"), family)
        for thing in (("b", "a"), ("a",), ("a", "b", "b"), (), ("a", "-b"), ["a", "b"], "a", None, 1, True, Clause("a"),
                      family, Turning("a"), ("-b", "a"), {"a": 1}):
            self.assertIs(thing in family, False)
        self.assertIs(() in ONE, True)
        self.assertIs(() in NONE, False)

    def test_equality(self):
        self.assertEqual(Family(["a"], [["a"]]), Family(["a", "a"], [("a",), ("a",)]))
        self.assertNotEqual(Family(["a"], []), Family(["b"], []))
        self.assertNotEqual(Family(["a"], [["a"]]), Family(["a"], [["-a"]]))
        self.assertNotEqual(Family(["a"], []), NONE)
        for thing in ((), [], None, 0, "a", ["a"], Product.free()):
            self.assertIs(NONE == thing, False)
            self.assertIs(Family(["a"], [["a"]]) == thing, False)

    def test_comparisons_and_operators(self):
        draw = random.Random(81)
        for names in ("", "a", "ab", "abc"):
            for _ in range(60):
                rows = choices(names)
                one, other = [draw.sample(rows, draw.randint(0, len(rows))) for _ in range(2)]
                if draw.random() < 0.3:
                    other = other + one
                first, second = [Family(list(names), part) for part in (one, other)]
                self.assertIs(first <= second, set(one) <= set(other))
                self.assertIs(first < second, set(one) < set(other))
                self.assertIs(first == second, set(one) == set(other))
                self.assertIs(first >= second, set(one) >= set(other))
                self.assertIs(first > second, set(one) > set(other))
                self.same(first & second, names, [row for row in one if row in other])
                self.same(first | second, names, {*one, *other})
                self.same(first, names, one)
                self.same(second, names, other)

    def test_other_names(self):
        for one, other in ((Family(["a"], []), Family(["b"], [])), (NONE, Family(["a"], [["a"]])),
                           (Family(["a", "b"], []), Family(["a"], []))):
            for call in (lambda: one <= other, lambda: one < other, lambda: one & other, lambda: one | other,
                         lambda: other <= one, lambda: other < one, lambda: other & one, lambda: other | one):
                self.refused(OtherNames, call)

    def test_families_are_compared_with_families_alone(self):
        for thing in (0, "a", (), Turning("a"), Clause("a")):
            with self.assertRaises(TypeError):
                ONE < thing
            with self.assertRaises(TypeError):
                ONE <= thing

    def test_turned_families(self):
        draw = random.Random(810)
        for family in drawn_families(811, 60, 5):
            turned = drawn_turned(draw, family.names)
            turning, before = Turning(*turned), list(family)
            rows = [tuple(turning(literal) for literal in choice) for choice in family]
            self.same(family ^ turning, family.names, rows)
            self.assertEqual((family ^ turning) ^ turning, family)
            self.assertEqual(list(family), before)
        self.same(Family(["a", "b"], [("a", "b")]) ^ Turning("b", "c"), "ab", [("a", "-b")])

    def test_onto(self):
        draw = random.Random(812)
        for family in drawn_families(813, 60, 5):
            for _ in range(3):
                names = draw.sample(family.names, draw.randint(0, len(family.names)))
                rows = {tuple(part for part in row if part.removeprefix("-") in names) for row in family}
                self.same(family.onto(*names, *names[:1]), sorted(names), rows)
        self.assertEqual(Family(["a"], []).onto(), NONE)
        self.assertEqual(Family(["a"], [["-a"]]).onto(), ONE)

    def test_onto_errors(self):
        family = Family(["a", "b"], [("a", "b")])
        for text in NO_NAMES:
            self.refused(BadName, family.onto, "z", "a", text, "B", text=text)
        self.refused(NoName, family.onto, "a", "z", "c", name="z")
        self.refused(NoName, NONE.onto, "a", name="a")

    def test_iterating_gives_tuples_that_do_not_change_the_family(self):
        family = Family(["a"], [["a"], ["-a"]])
        list(family).clear()
        self.assertEqual(len(family), 2)


class BookTest(FamilyCase):
    def test_against_all_choices(self):
        draw = random.Random(82)
        for book in drawn_books(820, 80, TWELVE[:4], 7, [0, 1, 2, 2, 3, 3, 3]):
            before = state(book)
            names = [*book.names, *draw.sample(["x", "e", "y"], draw.randint(0, 2))]
            draw.shuffle(names)
            rows = [choice for choice in choices(sorted(names)) if holds(choice, book)]
            self.same(Family.of(book, names + names[:1]), sorted(names), rows)
            self.same(Family.of(book, list(book.names)), book.names, list(models(book)))
            self.assertEqual(state(book), before)

    def test_known_by_hand(self):
        self.assertEqual(Family.of(Book(), []), ONE)
        self.assertEqual(Family.of(Book(Clause()), []), NONE)
        self.assertEqual(len(Family.of(Book(), list("abcdef"))), 64)
        self.same(Family.of(Book(Clause("a", "b")), ["b", "a"]), "ab", [("a", "b"), ("a", "-b"), ("-a", "b")])

    def test_errors_in_their_order(self):
        book = Book(Clause("d", "c"), Clause("b"))
        for text in NO_NAMES:
            self.refused(BadName, Family.of, book, [*"abcdefgh", text, "B"], text=text)
        self.refused(TooMany, Family.of, book, list("tuvwxyz"), limit=6)
        self.refused(TooMany, Family.of, book, list("abcdefg"), limit=6)
        self.refused(NoName, Family.of, book, ["d"], name="b")
        self.refused(NoName, Family.of, book, ["b", "d", "x"], name="c")
        self.refused(NoName, Family.of, Book(Clause(*"abcdef"), Clause("g")), list("bcdefg"), name="a")

    def test_says(self):
        draw = random.Random(821)
        found = []
        for family in drawn_families(822, 80, 4):
            clauses = [drawn_clause(draw, list(family.names), [1, 2, 3]) for _ in range(5)] if family.names else []
            for clause in [Clause(), *clauses]:
                found.append(family.says(clause))
                self.assertIs(found[-1], all(any(part in choice for part in clause) for choice in family))
        self.assertGreater(found.count(True), 50)
        self.assertGreater(found.count(False), 50)
        self.assertIs(NONE.says(Clause()), True)
        self.assertIs(ONE.says(Clause()), False)

    def test_says_of_other_names(self):
        family = Family(["b", "d"], [("b", "d")])
        self.refused(NoName, family.says, Clause("b", "-c", "a"), name="a")
        self.refused(NoName, family.says, Clause("-e", "d", "-c"), name="c")
        self.refused(NoName, ONE.says, Clause("a"), name="a")


class ClosingTest(FamilyCase):
    def test_against_the_definitions(self):
        draw = random.Random(83)
        found = []
        for family in drawn_families(830, 100, 5):
            turned = drawn_turned(draw, family.names)
            rows = list(family)
            turning = Turning(*turned)
            pairs = [
                (one, other)
                for at, one in enumerate(rows)
                for other in rows[at + 1:]
                if met(turned, one, other) not in rows
            ]
            self.assertEqual(family.gap(turning), pairs[0] if pairs else None)
            found.append(family.closed(turning))
            self.assertIs(found[-1], not pairs)
            if pairs:
                self.assertIs(type(family.gap(turning)), tuple)
                self.assertNotIn(meet(turning, *family.gap(turning)), family)
            span = span_by_hand(rows, turned)
            self.same(family.span(turning), family.names, span)
            corners = [row for row in rows if row not in span_by_hand([other for other in rows if other != row], turned)]
            self.same(family.corners(turning), family.names, corners)
            self.assertEqual(family.corners(turning).span(turning), family.span(turning))
            self.assertEqual(list(family), rows)
        self.assertGreater(found.count(True), 20)
        self.assertGreater(found.count(False), 20)

    def test_the_example_of_the_document(self):
        family = Family(["a", "b"], [("a", "-b"), ("-a", "b")])
        self.assertIs(family.closed(Turning()), False)
        self.assertIs(family.closed(Turning("a")), True)
        self.assertEqual(family.gap(Turning()), (("a", "-b"), ("-a", "b")))
        self.assertIsNone(family.gap(Turning("a", "z")))
        self.assertEqual(list(family.span(Turning())), [("a", "-b"), ("-a", "b"), ("-a", "-b")])
        self.assertEqual(family.corners(Turning()), family)
        self.assertEqual(list(family.span(Turning()).corners(Turning("z"))), [("a", "-b"), ("-a", "b")])

    def test_six_names(self):
        draw = random.Random(831)
        for many in (0, 1, 5, 9, 64):
            rows = draw.sample(choices("abcdef"), many)
            family = Family(list("abcdef"), rows)
            turned = drawn_turned(draw, "abcdef")
            self.same(family.span(Turning(*turned)), "abcdef", span_by_hand(rows, turned))
            expected = [part for part in subsets("abcdef") if closed_by_hand(set(rows), part)]
            self.assertEqual([turning.turned for turning in family.closing().walk()], expected)

    def test_over_no_names_and_without_choices(self):
        for family in (NONE, ONE, Family(["a", "b"], [])):
            for turning in (Turning(), Turning("a"), Turning("z")):
                self.assertIsNone(family.gap(turning))
                self.assertIs(family.closed(turning), True)
                self.assertEqual(family.span(turning), family)
                self.assertEqual(family.corners(turning), family)
            self.assertEqual(family.closing(), Product.free(*family.names))

    def test_closing(self):
        for family in drawn_families(84, 80, 4):
            product = family.closing()
            self.assertIs(type(product), Product)
            expected = [turned for turned in subsets(family.names) if closed_by_hand(list(family), turned)]
            self.assertEqual(product.names, family.names)
            self.assertEqual([turning.turned for turning in product.walk()], expected)
            self.assertEqual(product, Product.hull(list(family.names), list(product.walk())))

    def test_a_turning_that_suits_a_book_closes_its_family(self):
        for book in drawn_books(840, 60, TWELVE[:4], 5, [1, 2, 2, 3]):
            family = Family.of(book, [*book.names, "y"])
            for turned in suiting(book):
                self.assertIs(family.closed(Turning(*turned)), True)
                self.assertIs(family.closed(Turning(*turned, "y", "z")), True)


class ClausesTest(FamilyCase):
    def look_at(self, family, turned):
        """Assert that the clauses of a closed family are as point 85 says, and return how many they are."""
        clauses = family.clauses(Turning(*turned))
        self.assertIs(type(clauses), list)
        self.assertLessEqual(len(clauses), 64)
        self.assertEqual(len({clause.literals for clause in clauses}), len(clauses))
        for clause in clauses:
            self.assertIs(type(clause), Clause)
            self.assertLessEqual(set(clause.names), set(family.names))
            self.assertTrue(Turning(*turned).suits(clause))
        every = choices(family.names)
        self.assertEqual([choice for choice in every if has_each(choice, clauses)], list(family))
        for at in range(len(clauses)):
            left = [choice for choice in every if has_each(choice, clauses[:at] + clauses[at + 1:])]
            self.assertNotEqual(left, list(family))
        return len(clauses)

    def test_closed_families(self):
        draw = random.Random(85)
        found = []
        for family in drawn_families(850, 150, 5):
            turned = drawn_turned(draw, family.names)
            found.append(self.look_at(family.span(Turning(*turned)), turned))
        self.assertEqual(set(range(6)) - set(found), set())
        for family in drawn_families(851, 10, 6):
            turned = drawn_turned(draw, family.names)
            self.look_at(family.span(Turning(*turned)), turned)

    def test_all_families_over_two_names(self):
        rows = choices("ab")
        for kept in subsets("abcd"):
            family = Family(["a", "b"], [rows["abcd".index(sign)] for sign in kept])
            for turned in subsets("ab"):
                if closed_by_hand(list(family), turned):
                    self.look_at(family, turned)

    def test_known_by_hand(self):
        self.assertEqual(NONE.clauses(Turning("a")), [Clause()])
        self.assertEqual(ONE.clauses(Turning("a")), [])
        self.assertEqual(Family(["a"], [["a"], ["-a"]]).clauses(Turning()), [])
        self.assertEqual(Family(["a"], [["-a"]]).clauses(Turning()), [Clause("-a")])
        self.look_at(Family(list("abcdef"), []), ())
        self.look_at(Family(list("abcdef"), choices("abcdef")[:1]), tuple("abc"))

    def test_many_clauses(self):
        middle = [row for row in choices("abcdef") if len([part for part in row if part.startswith("-")]) >= 4]
        self.assertEqual(self.look_at(Family(list("abcdef"), middle), ()), 20)

    def test_not_closed(self):
        draw = random.Random(852)
        many = 0
        for family in drawn_families(853, 60, 4):
            turning = Turning(*drawn_turned(draw, family.names))
            if not family.closed(turning):
                many += 1
                self.refused(NotClosed, family.clauses, turning, pair=family.gap(turning))
        self.assertGreater(many, 10)

    def test_every_list_is_new(self):
        family = Family(["a"], [["a"]])
        family.clauses(Turning()).clear()
        self.assertEqual(len(family.clauses(Turning())), 1)

    def test_what_a_family_and_its_span_say(self):
        draw = random.Random(854)
        for family in drawn_families(855, 25, 4):
            turned = drawn_turned(draw, family.names)
            span = family.span(Turning(*turned))
            said = []
            for literals in suited_clauses(family.names, turned):
                self.assertIs(family.says(Clause(*literals)), span.says(Clause(*literals)))
                if family.says(Clause(*literals)):
                    said.append(literals)
            self.assertEqual([choice for choice in choices(family.names) if has_each(choice, said)], list(span))
