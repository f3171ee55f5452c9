"""Points 32 to 41: products."""

import itertools
import operator
import random

from helper import (
    Case, NO_LITERALS, NO_NAMES, TWELVE, both, drawn_books, opposite, says_yes, state, subsets, suiting,
)
from renamedhorn.books import Book
from renamedhorn.clauses import Clause
from renamedhorn.errors import (
    BadLiteral, BadName, NoName, NoPlace, NoTurning, OtherNames, SharedName, TooMany,
)
from renamedhorn.products import Product, all_turnings, parted
from renamedhorn.turnings import Turning

ABC = ["a", "a1", "b"]


def turned_rows(product):
    """The turnings of a product as tuples of names, in the order of its walk."""
    return [turning.turned for turning in product.walk()]


def medians(rows):
    """The least set of turnings with some turnings that holds the median of each three."""
    found = {frozenset(row) for row in rows}
    while True:
        more = {
            (one & two) | (one & three) | (two & three)
            for one, two, three in itertools.combinations(found, 3)
        }
        if more <= found:
            return found
        found |= more


def in_turning_order(names, rows):
    """Turnings as tuples of names, in turning order."""
    return [row for row in subsets(names) if set(row) in [set(other) for other in rows]]


def drawn_rows(seed, many, names):
    """Drawn lists of turnings of the names."""
    draw = random.Random(seed)
    every = subsets(names)
    return [draw.sample(every, min(draw.randint(0, 4), len(every))) for _ in range(many)]


def hull(names, rows):
    return Product.hull(list(names), [Turning(*row) for row in rows])


def products(names, many=25):
    """Products over the names: none, all and many between."""
    return [hull(names, []), Product.free(*names)] + [hull(names, rows) for rows in drawn_rows(len(names), many, names)]


def cut(rows, names):
    """Turnings cut down to some names, each once."""
    return {tuple(name for name in row if name in names) for row in rows}


class ProductCase(Case):
    def same(self, product, names, rows):
        """Assert that a product has just these names and, in turning order, these turnings."""
        self.assertIs(type(product), Product)
        self.assertIs(type(product.names), tuple)
        self.assertEqual(product.names, tuple(names))
        self.assertEqual(turned_rows(product), in_turning_order(names, rows))
        self.assertEqual(product.many, len(set(rows)))


class AllTurningsTest(ProductCase):
    def test_against_all_turnings(self):
        many = set()
        for book in [
            *drawn_books(1, 60, TWELVE[:4], 6, [1, 2, 2, 3, 4]),
            *drawn_books(2, 20, TWELVE[:7], 9, [1, 2, 3, 6]),
            *drawn_books(3, 6, TWELVE, 12, [2, 2, 3, 6]),
        ]:
            before = state(book)
            product = all_turnings(book)
            self.same(product, book.names, suiting(book))
            self.assertEqual(state(book), before)
            many.add(product.many)
        self.assertGreater(len(many), 5)

    def test_books_known_by_hand(self):
        self.same(all_turnings(Book(Clause("a", "b"))), "ab", [("a",), ("b",), ("a", "b")])
        self.same(all_turnings(Book(Clause("a", "-b"))), "ab", [(), ("a",), ("a", "b")])
        self.same(all_turnings(Book(Clause("a", "b", "c"), Clause("-a", "-b", "-c"))), "abc", [])

    def test_the_book_without_clauses(self):
        self.same(all_turnings(Book()), "", [()])
        self.same(all_turnings(Book(Clause(), Clause())), "", [()])

    def test_clauses_of_one_literal(self):
        self.same(all_turnings(Book(Clause("b"), Clause("-a"), Clause("-b"))), "ab", subsets("ab"))

    def test_twelve_names(self):
        self.assertEqual(all_turnings(Book(*[Clause(name) for name in TWELVE])).many, 4096)
        chain = [Clause(one, "-" + other) for one, other in zip(TWELVE, TWELVE[1:])]
        self.same(all_turnings(Book(*chain)), TWELVE, [tuple(TWELVE[:at]) for at in range(13)])


class MakingTest(ProductCase):
    def test_free(self):
        self.same(Product.free("b", "a", "a1"), ABC, subsets(ABC))
        self.same(Product.free(), "", [()])
        self.assertEqual(Product.LIMIT, 12)

    def test_names_twice_count_once(self):
        self.same(Product.free("b", "a", "b", "b"), "ab", subsets("ab"))
        self.assertEqual(Product.free(*TWELVE, *TWELVE).many, 4096)
        self.same(Product.hull(["b", "a", "b"], [Turning("b")]), "ab", [("b",)])
        self.same(Product.hull(TWELVE + TWELVE, []), TWELVE, [])

    def test_bad_name_goes_before_too_many(self):
        for text in NO_NAMES:
            self.refused(BadName, Product.free, "a", text, "A", text=text)
            self.refused(BadName, Product.free, *TWELVE, "m", text, text=text)
            self.refused(BadName, Product.hull, ["a", text, "A"], [Turning("z")], text=text)
            self.refused(BadName, Product.hull, [*TWELVE, "m", text], [Turning("z")], text=text)

    def test_too_many(self):
        self.refused(TooMany, Product.free, *TWELVE, "m", limit=12)
        self.refused(TooMany, Product.hull, [*TWELVE, "m"], [], limit=12)
        self.refused(TooMany, Product.hull, [*TWELVE, "m"], [Turning("z")], limit=12)

    def test_hull_of_other_names(self):
        rows = [Turning("a"), Turning("a", "z", "y"), Turning("x")]
        self.refused(NoName, Product.hull, ["a", "b"], rows, name="y")
        self.refused(NoName, Product.hull, ["a", "y", "b"], rows, name="z")
        self.refused(NoName, Product.hull, ["a", "y", "z"], rows, name="x")
        self.refused(NoName, Product.hull, [], rows, name="a")

    def test_hull_is_the_closure_under_medians(self):
        for names in ("", "a", "ab", "abc", "abcd", "abcde"):
            for rows in drawn_rows(7, 25, list(names)):
                found = [tuple(sorted(row)) for row in medians(rows)]
                self.same(hull(names, rows), names, found)
                self.same(hull(names, rows + rows), names, found)

    def test_hull_of_few(self):
        self.same(hull("ab", []), "ab", [])
        self.same(hull("", []), "", [])
        self.same(hull("", [()]), "", [()])
        self.same(hull("abc", [("a", "c")]), "abc", [("a", "c")])
        self.same(hull("abc", [("a",), ("b",), ("c",)]), "abc", [(), ("a",), ("b",), ("c",)])

    def test_hull_of_many(self):
        self.assertEqual(hull(TWELVE, subsets(TWELVE)), Product.free(*TWELVE))
        rows = [tuple(TWELVE[:at]) for at in range(13)]
        self.same(hull(TWELVE, rows), TWELVE, rows)

    def test_hull_is_in_every_other(self):
        for rows in drawn_rows(8, 40, ABC):
            for other in products(ABC):
                if all(Turning(*row) in other for row in rows):
                    self.assertIs(hull(ABC, rows) <= other, True)

    def test_arguments_stay(self):
        names, rows = ["b", "a", "b"], [Turning("b"), Turning("a")]
        product = Product.hull(names, rows)
        self.assertEqual((names, rows), (["b", "a", "b"], [Turning("b"), Turning("a")]))
        names.clear()
        rows.clear()
        self.same(product, "ab", [("a",), ("b",)])

    def test_two_products_over_no_names(self):
        self.assertIs(Product.free() == hull("", [()]), True)
        self.assertIs(Product.free() == hull("", []), False)


class ReadingTest(ProductCase):
    def test_in(self):
        for product in products(ABC):
            rows = turned_rows(product)
            for turned in subsets([*ABC, "c"]):
                self.assertIs(Turning(*turned) in product, turned in rows)
            for other in ("a", "", 0, None, [], {}, ("a",), product, Clause("a"), Turning("z")):
                self.assertIs(other in product, False)

    def test_bool(self):
        for product in products(ABC) + products([]):
            self.assertIs(bool(product), product.many > 0)
        self.assertIs(bool(hull("a", [])), False)
        self.assertIs(bool(Product.free()), True)

    def test_walk_is_in_turning_order(self):
        for product in products(ABC):
            rows = list(product.walk())
            for one, other in zip(rows, rows[1:]):
                self.assertIs(one < other, True)
            self.assertEqual(len(rows), product.many)
        self.assertIs(next(Product.free(*TWELVE).walk()) == Turning(), True)

    def test_index_and_place(self):
        for product in products(ABC):
            for at, turning in enumerate(product.walk()):
                self.assertEqual(product[at], turning)
                self.assertEqual(product.place_of(turning), at)
                self.assertIs(type(product.place_of(turning)), int)

    def test_no_place(self):
        for product in products(ABC, 5):
            for at in (-1, -product.many, product.many, product.many + 1, 10 ** 20):
                if at != 0 or product.many == 0:
                    self.refused(NoPlace, operator.getitem, product, at, at=at)
        self.refused(NoPlace, operator.getitem, hull("a", []), 0, at=0)

    def test_no_turning(self):
        for product in products(ABC, 5):
            rows = turned_rows(product)
            for turned in subsets([*ABC, "c"]):
                if turned not in rows:
                    self.refused(NoTurning, product.place_of, Turning(*turned))
        self.assertEqual(Product.free().place_of(Turning()), 0)
        self.refused(NoTurning, Product.free().place_of, Turning("a"))

    def test_twelve_names(self):
        product = Product.free(*TWELVE)
        self.assertEqual((product.many, product.names), (4096, tuple(TWELVE)))
        self.assertEqual(turned_rows(product), subsets(TWELVE))
        for at in (0, 1, 2, 2047, 2048, 4094, 4095):
            self.assertEqual(product.place_of(product[at]), at)
            self.assertEqual(product[at].turned, subsets(TWELVE)[at])
        self.refused(NoPlace, operator.getitem, product, 4096, at=4096)

    def test_it_is_not_iterated_over(self):
        self.assertRaises(TypeError, iter, Product.free("a"))

    def test_the_names(self):
        self.assertEqual(Product.free("b", "a1", "a").names, ("a", "a1", "b"))
        self.assertEqual(Product.free().names, ())


class ComparisonTest(ProductCase):
    def test_as_sets(self):
        for one, other in itertools.product(products(ABC), repeat=2):
            first, second = set(turned_rows(one)), set(turned_rows(other))
            self.assertIs(one == other, first == second)
            self.assertIs(one != other, first != second)
            self.assertIs(one <= other, first <= second)
            self.assertIs(one < other, first < second)
            apart = in_turning_order(ABC, first ^ second)
            found = parted(one, other)
            self.assertEqual(found.turned if found is not None else None, apart[0] if apart else None)

    def test_other_names(self):
        for one, other in (
            (Product.free("a"), Product.free("b")), (Product.free("a"), Product.free("a", "b")),
            (hull("a", []), hull("", [])), (hull("", []), hull("b", [])),
        ):
            self.assertIs(one == other, False)
            self.assertIs(one != other, True)
            for sign in (operator.le, operator.lt, parted, operator.or_):
                self.refused(OtherNames, sign, one, other)
                self.refused(OtherNames, sign, other, one)

    def test_parted(self):
        self.assertIsNone(parted(Product.free("a"), Product.free("a")))
        self.assertEqual(parted(hull("ab", [("b",)]), Product.free("a", "b")), Turning())
        self.assertEqual(parted(Product.free(*TWELVE), hull(TWELVE, [(), ("l",)])), Turning("k"))

    def test_other_values(self):
        for value in (None, 0, "a", [], (), Turning(), Turning("a")):
            self.assertIs(Product.free() == value, False)
            self.assertIs(Product.free() != value, True)
            self.assertRaises(TypeError, operator.lt, Product.free(), value)
            self.assertRaises(TypeError, operator.le, Product.free(), value)


class JoiningTest(ProductCase):
    def met(self, one, other):
        """The names and the turnings of one & other, straight from the words of point 36."""
        names = sorted({*one.names, *other.names})
        first, second = set(turned_rows(one)), set(turned_rows(other))
        rows = [row for row in subsets(names) if cut([row], one.names) <= first and cut([row], other.names) <= second]
        return names, rows

    def test_and(self):
        for names, others in (("abc", "bcd"), ("abc", "abc"), ("ab", "cd"), ("abc", "b"), ("", "ab"), ("", "")):
            for one in products(list(names), 6):
                for other in products(list(others), 6):
                    self.same(one & other, *self.met(one, other))
                    self.assertEqual(one & other, other & one)

    def test_times(self):
        for names, others in (("ac", "bd"), ("", "ab"), ("", ""), ("abc", "d")):
            for one in products(list(names), 6):
                for other in products(list(others), 6):
                    self.same(one * other, *self.met(one, other))
                    self.assertEqual((one * other).many, one.many * other.many)

    def test_or(self):
        for one, other in itertools.product(products(ABC, 10), repeat=2):
            rows = medians(turned_rows(one) + turned_rows(other))
            self.same(one | other, ABC, [tuple(sorted(row)) for row in rows])

    def test_and_of_too_many_names(self):
        six, seven = Product.free(*TWELVE[:6]), Product.free(*TWELVE[6:], "m")
        self.refused(TooMany, operator.and_, six, seven, limit=12)
        self.refused(TooMany, operator.and_, hull(TWELVE, []), hull("m", []), limit=12)
        self.assertEqual((six & Product.free(*TWELVE[6:])).many, 4096)
        self.assertEqual((Product.free(*TWELVE) & hull("l", [("l",)])).many, 2048)

    def test_errors_of_times(self):
        six, seven = Product.free(*TWELVE[:6]), Product.free(*TWELVE[6:], "m")
        self.refused(TooMany, operator.mul, six, seven, limit=12)
        self.refused(SharedName, operator.mul, Product.free(*TWELVE), Product.free("m", "l", "k"), name="k")
        self.refused(SharedName, operator.mul, Product.free("c", "b", "a1"), Product.free("c", "b", "a"), name="b")
        self.refused(SharedName, operator.mul, hull("a", []), hull("a", []), name="a")
        self.assertEqual(six * Product.free(*TWELVE[6:]), Product.free(*TWELVE))

    def test_in_place(self):
        one, other = hull("ab", [("a",), ("b",)]), hull("ab", [("a",)])
        old = one
        one &= other
        self.assertEqual((one, old.many), (other, 2))
        one |= hull("ab", [()])
        self.same(one, "ab", [(), ("a",)])
        self.same(other, "ab", [("a",)])
        one *= Product.free("c")
        self.same(one, "abc", [(), ("a",), ("c",), ("a", "c")])
        self.same(old, "ab", [("a",), ("b",)])


class SayingTest(ProductCase):
    def test_against_all_turnings(self):
        for product in products(ABC, 12):
            rows = turned_rows(product)
            for length in range(4):
                for literals in itertools.product(both(ABC), repeat=length):
                    kept = [row for row in rows if all(says_yes(row, literal) for literal in literals)]
                    self.same(product.saying(*literals), ABC, kept)
                    self.assertIs(product.together(*literals), bool(kept))

    def test_without_literals(self):
        for product in products(ABC):
            self.assertEqual(product.saying(), product)
            self.assertIs(product.together(), bool(product))

    def test_both_signs(self):
        product = Product.free("a", "b")
        self.assertIs(product.together("a", "-a"), False)
        self.same(product.saying("-a", "b", "a"), "ab", [])
        self.assertIs(product.together("a", "-b", "a"), True)

    def test_each_two_literals(self):
        for product in products(ABC, 12):
            for literals in itertools.combinations(both(ABC), 3):
                pairs = itertools.combinations_with_replacement(literals, 2)
                self.assertIs(product.together(*literals), all(product.together(*pair) for pair in pairs))

    def test_errors(self):
        product = Product.free("a", "b")
        for call in (product.saying, product.together):
            for text in NO_LITERALS:
                self.refused(BadLiteral, call, "a", text, "B", text=text)
                self.refused(BadLiteral, call, "-z", "a", text, text=text)
            self.refused(NoName, call, "a", "-z", "y", name="z")
            self.refused(NoName, call, "y", "-z", name="y")
        self.refused(NoName, Product.free().saying, "-a", name="a")
        self.refused(NoName, hull("a", []).together, "b", name="b")


class OntoTest(ProductCase):
    def test_against_all_turnings(self):
        for product in products(ABC):
            for names in subsets(ABC):
                for row in itertools.permutations(names):
                    self.same(product.onto(*row), names, cut(turned_rows(product), names))

    def test_repeats_and_no_names(self):
        product = hull("abc", [("a",), ("b", "c")])
        self.same(product.onto("c", "a", "c"), "ac", [("a",), ("c",)])
        self.same(product.onto(), "", [()])
        self.same(hull("abc", []).onto(), "", [])
        self.same(hull("abc", []).onto("b"), "b", [])
        self.same(Product.free().onto(), "", [()])

    def test_errors(self):
        product = Product.free("a", "b")
        for text in NO_NAMES:
            self.refused(BadName, product.onto, "z", text, "A", text=text)
        self.refused(NoName, product.onto, "b", "z", "y", name="z")
        self.refused(NoName, product.onto, "y", "z", name="y")
        self.refused(NoName, hull("", []).onto, "a", name="a")


class SideTest(ProductCase):
    def test_against_all_turnings(self):
        for product in products(ABC):
            for name in ABC:
                turned = {name in row for row in turned_rows(product)}
                if turned:
                    self.assertIs(product.side(name), turned.pop() if len(turned) == 1 else None)

    def test_the_three_sides(self):
        product = hull("abc", [("a",), ("a", "c")])
        self.assertIs(product.side("a"), True)
        self.assertIs(product.side("b"), False)
        self.assertIs(product.side("c"), None)

    def test_errors(self):
        for text in NO_NAMES:
            self.refused(BadName, hull("a", []).side, text, text=text)
        self.refused(NoName, hull("a", []).side, "b", name="b")
        self.refused(NoName, Product.free("a").side, "b", name="b")
        self.refused(NoTurning, hull("a", []).side, "a")


class FactorsTest(ProductCase):
    def splits(self, product):
        """Tell whether a product is the `*` of two products with at least one name each."""
        first, rest = product.names[0], product.names[1:]
        for other in subsets(rest)[:-1]:
            names = [first, *other]
            others = [name for name in rest if name not in other]
            if product.onto(*names).many * product.onto(*others).many == product.many:
                return True
        return False

    def look_at(self, product):
        factors = product.factors()
        self.assertIs(type(factors), list)
        self.assertEqual([part.names[0] for part in factors], sorted(part.names[0] for part in factors))
        whole = Product.free()
        for part in factors:
            self.assertIs(self.splits(part), False)
            whole *= part
        self.assertEqual(whole, product)
        return [part.names for part in factors]

    def test_products(self):
        for names in ("", "a", "ab", "abc", "abcd", "abcde"):
            for product in products(list(names)):
                if product:
                    self.look_at(product)

    def test_products_of_products(self):
        for one, other in itertools.product(products(["a", "c", "e"], 12), products(["b", "d"], 12)):
            if one and other:
                found = self.look_at(one * other)
                self.assertEqual(found, sorted(self.look_at(one) + self.look_at(other)))

    def test_free(self):
        self.assertEqual(Product.free("b", "a").factors(), [Product.free("a"), Product.free("b")])
        self.assertEqual(self.look_at(Product.free(*TWELVE)), [(name,) for name in TWELVE])

    def test_fixed_names(self):
        self.assertEqual(self.look_at(hull("abc", [("a", "c"), ("a", "b")])), [("a",), ("b", "c")])
        self.assertEqual(self.look_at(hull("abc", [("b",)])), [("a",), ("b",), ("c",)])

    def test_names_that_hang_together(self):
        rows = [tuple(TWELVE[:at]) for at in range(13)]
        self.assertEqual(self.look_at(hull(TWELVE, rows)), [tuple(TWELVE)])
        book = Book(Clause("a", "-c"), Clause("c", "-e"), Clause("b", "d"), Clause("f"))
        self.assertEqual(self.look_at(all_turnings(book)), [("a", "c", "e"), ("b", "d"), ("f",)])

    def test_no_names(self):
        self.assertEqual(Product.free().factors(), [])

    def test_no_turning(self):
        for names in ("", "a", "ab"):
            self.refused(NoTurning, hull(names, []).factors)


class MovedTest(ProductCase):
    def test_against_all_turnings(self):
        for product in products(["a", "b", "c", "d"], 15):
            rows = turned_rows(product)
            for row in rows:
                for length in range(3):
                    for literals in itertools.product(both("abcd"), repeat=length):
                        self.look_at(product, row, literals)

    def look_at(self, product, row, literals):
        others = [other for other in turned_rows(product) if all(says_yes(other, part) for part in literals)]
        if not others:
            self.refused(NoTurning, product.moved, Turning(*row), *literals)
            return
        moved = product.moved(Turning(*row), *literals)
        self.assertIs(type(moved), Turning)
        self.assertIn(moved.turned, others)
        for other in others:
            self.assertLessEqual(set(row) ^ set(moved.turned), set(row) ^ set(other))

    def test_without_literals(self):
        for product in products(ABC):
            for turning in product.walk():
                self.assertEqual(product.moved(turning), turning)

    def test_what_is_said_already(self):
        self.assertEqual(Product.free(*TWELVE).moved(Turning("c"), "-c", "a"), Turning("c"))
        self.assertEqual(Product.free(*TWELVE).moved(Turning("c"), "c", "-l"), Turning("l"))

    def test_errors(self):
        product = hull("ab", [("a",), ("b",)])
        for text in NO_LITERALS:
            self.refused(BadLiteral, product.moved, Turning("z"), "-z", text, "B", text=text)
        self.refused(NoName, product.moved, Turning("z"), "a", "-z", "y", name="z")
        self.refused(NoTurning, product.moved, Turning("z"), "a")
        self.refused(NoTurning, product.moved, Turning(), "a")
        self.refused(NoTurning, product.moved, Turning("a"), "a", "b")
        self.refused(NoTurning, product.moved, Turning("a"), "a", "-a")
        self.refused(NoTurning, hull("", []).moved, Turning())

    def test_a_move_of_twelve_names(self):
        rows = [tuple(TWELVE[:at]) for at in range(13)]
        product = hull(TWELVE, rows)
        self.assertEqual(product.moved(Turning(*rows[3]), "-h"), Turning(*rows[8]))
        self.assertEqual(product.moved(Turning(*rows[9]), "c", opposite("b")), Turning(*rows[2]))
