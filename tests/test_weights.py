"""Points 42 to 45: weights."""

import itertools
import operator
import random

from helper import Case, NO_LITERALS, NO_NAMES, TWELVE, both, drawn_books, drawn_clause, suiting
from renamedhorn.books import Book
from renamedhorn.clauses import Clause
from renamedhorn.errors import BadLiteral, BadName, BadWeight, HalfLeft, NoName, TooMany
from renamedhorn.shares import Share
from renamedhorn.turnings import Turning
from renamedhorn.weights import Weights

HALF = Share(1, 2)
NO_WEIGHTS = [Share(-1, 9), Share(3, 2), Share(10 ** 12 + 1, 10 ** 12), Share(-1), Share(2)]


def rows_of(weights):
    """The names and the shares, as texts, in the order in which the weights are iterated over."""
    return [(name, str(weights[name])) for name in weights]


def drawn_weights(seed, names):
    """Weights of the names with drawn shares, many of them simple."""
    draw = random.Random(seed)
    shares = [0, 1, HALF, Share(0), Share(1, 3), Share(2, 3), Share(3, 4), Share(1, 7)]
    return Weights(**{name: draw.choice(shares) for name in names})


class WeightsCase(Case):
    def refused_and_same(self, weights, error, *args, **kept):
        """Assert that a call is refused and leaves the weights as they were."""
        before = rows_of(weights)
        caught = self.refused(error, *args, **kept)
        self.assertEqual(rows_of(weights), before)
        return caught


class MakingTest(WeightsCase):
    def test_keywords_in_any_order(self):
        for row in itertools.permutations([("a", Share(1, 3)), ("a1", 0), ("b", 1), ("zz9", HALF)]):
            weights = Weights(**dict(row))
            self.assertEqual(rows_of(weights), [("a", "1/3"), ("a1", "0"), ("b", "1"), ("zz9", "1/2")])

    def test_shares_and_integers(self):
        weights = Weights(a=0, b=1, c=Share(0), d=Share(1), e=Share(2, 4))
        for name in weights:
            self.assertIs(type(weights[name]), Share)
        self.assertEqual(weights, Weights(a=Share(0), b=Share(1), c=0, d=1, e=HALF))
        self.assertEqual(rows_of(Weights()), [])

    def test_names_that_a_call_could_mistake(self):
        names = ["shares", "cls", "name", "worth", "book", "weights"]
        self.assertEqual(list(Weights(**{name: 1 for name in names})), sorted(names))

    def test_limit(self):
        self.assertEqual(Weights.LIMIT, 12)
        self.assertEqual(len(Weights(**{name: 1 for name in TWELVE})), 12)
        self.refused(TooMany, lambda: Weights(**{name: 1 for name in TWELVE + ["m"]}), limit=12)

    def test_bad_names(self):
        for text in NO_NAMES:
            self.refused(BadName, lambda text=text: Weights(**{"a": 1, text: 0}), text=text)
            self.refused(BadName, lambda text=text: Weights(**{text: Share(3, 2)}), text=text)
        self.refused(BadName, lambda: Weights(A=1), text="A")
        self.refused(BadName, lambda: Weights(name_of_nine=7), text="name_of_nine")

    def test_bad_weights(self):
        for share in NO_WEIGHTS:
            self.refused(BadWeight, lambda share=share: Weights(a=1, b=share, c=5), share=share)
        for number in (-1, 2, 10 ** 50):
            caught = self.refused(BadWeight, lambda number=number: Weights(b=number), share=Share(number))
            self.assertIs(type(caught.share), Share)

    def test_the_order_of_errors(self):
        self.refused(BadWeight, lambda: Weights(a=2, B=1), share=Share(2))
        self.refused(BadName, lambda: Weights(B=1, a=2), text="B")
        many = {name: 1 for name in TWELVE}
        self.refused(TooMany, lambda: Weights(**many, m=1, B=1, n=2), limit=12)
        self.refused(BadWeight, lambda: Weights(**many, m=2, B=1), share=Share(2))
        self.refused(BadName, lambda: Weights(**many, B=2, m=1), text="B")


class SettingTest(WeightsCase):
    def test_old_and_new_names(self):
        weights = Weights(b=1, d=0)
        weights["c"] = Share(2, 6)
        weights["b"] = 0
        weights["a"] = Share(1)
        self.assertEqual(rows_of(weights), [("a", "1"), ("b", "0"), ("c", "1/3"), ("d", "0")])
        for name in weights:
            self.assertIs(type(weights[name]), Share)

    def test_errors(self):
        weights = Weights(a=1, b=HALF)
        for text in NO_NAMES:
            self.refused_and_same(weights, BadName, operator.setitem, weights, text, 7, text=text)
        for share in NO_WEIGHTS:
            self.refused_and_same(weights, BadWeight, operator.setitem, weights, "a", share, share=share)
            self.refused_and_same(weights, BadWeight, operator.setitem, weights, "c", share, share=share)
        caught = self.refused_and_same(weights, BadWeight, operator.setitem, weights, "a", -1, share=Share(-1))
        self.assertIs(type(caught.share), Share)

    def test_twelve_names(self):
        weights = Weights(**{name: 1 for name in TWELVE})
        self.refused_and_same(weights, TooMany, operator.setitem, weights, "m", 1, limit=12)
        self.refused_and_same(weights, BadWeight, operator.setitem, weights, "m", 2, share=Share(2))
        self.refused_and_same(weights, BadName, operator.setitem, weights, "M", 1, text="M")
        weights["l"] = HALF
        self.assertEqual((len(weights), str(weights["l"])), (12, "1/2"))

    def test_setting_is_seen_by_a_second_variable(self):
        weights = Weights(a=1)
        other = weights
        other["a"] = 0
        other["b"] = 1
        self.assertEqual(rows_of(weights), [("a", "0"), ("b", "1")])

    def test_iteration_is_not_disturbed(self):
        weights = Weights(a=1, b=1)
        for name in weights:
            weights[name] = 0
            weights[name + "0"] = HALF
        self.assertEqual(rows_of(weights), [("a", "0"), ("a0", "1/2"), ("b", "0"), ("b0", "1/2")])


class ReadingTest(WeightsCase):
    def test_index(self):
        weights = Weights(a=1, b=Share(1, 3))
        self.assertEqual((weights["a"], weights["b"]), (Share(1), Share(1, 3)))
        for text in NO_NAMES:
            self.refused(BadName, operator.getitem, weights, text, text=text)
        self.refused(NoName, operator.getitem, weights, "c", name="c")
        self.refused(NoName, operator.getitem, Weights(), "self", name="self")

    def test_len_and_iteration(self):
        self.assertEqual((len(Weights()), list(Weights())), (0, []))
        self.assertEqual(list(Weights(b=1, a1=1, a=1)), ["a", "a1", "b"])
        self.assertEqual(len(Weights(b=1, a1=1, a=1)), 3)

    def test_in(self):
        weights = Weights(a=0, b=1)
        self.assertIs("a" in weights, True)
        self.assertIs("b" in weights, True)
        for other in ("c", "-a", "A", "", "a b", 0, 1, None, [], {}, ("a",), Share(0), weights, Clause("a")):
            self.assertIs(other in weights, False)

    def test_equality(self):
        self.assertIs(Weights(a=1, b=HALF) == Weights(b=Share(2, 4), a=Share(1)), True)
        self.assertIs(Weights(a=1, b=HALF) != Weights(b=Share(2, 4), a=Share(1)), False)
        for other in (Weights(a=1), Weights(a=1, b=0), Weights(a=1, c=HALF), Weights(), {"a": 1}, None, "a", 0, []):
            self.assertIs(Weights(a=1, b=HALF) == other, False)
            self.assertIs(Weights(a=1, b=HALF) != other, True)
        self.assertIs(Weights() == Weights(), True)


class OfTest(WeightsCase):
    def test_turned_and_others(self):
        weights = Weights.of(Turning("b", "z"), ["c", "b", "a", "b"])
        self.assertEqual(rows_of(weights), [("a", "1"), ("b", "0"), ("c", "1")])
        self.assertEqual(rows_of(Weights.of(Turning("b"), [])), [])
        self.assertEqual(rows_of(Weights.of(Turning("self"), ["self", "other"])), [("other", "1"), ("self", "0")])
        for name in weights:
            self.assertIs(type(weights[name]), Share)

    def test_the_list_stays(self):
        names = ["b", "a", "b"]
        weights = Weights.of(Turning(), names)
        self.assertEqual(names, ["b", "a", "b"])
        names.append("c")
        self.assertEqual(list(weights), ["a", "b"])

    def test_errors(self):
        for text in NO_NAMES:
            self.refused(BadName, Weights.of, Turning("a"), ["a", text, "A"], text=text)
            self.refused(BadName, Weights.of, Turning("a"), [*TWELVE, "m", text], text=text)
        self.refused(TooMany, Weights.of, Turning("a"), [*TWELVE, "m"], limit=12)
        self.assertEqual(len(Weights.of(Turning("a"), TWELVE + TWELVE)), 12)


class CallTest(WeightsCase):
    def test_literals(self):
        weights = Weights(a=1, b=0, c=Share(1, 3))
        expected = {"a": Share(1), "-a": Share(0), "b": 0, "-b": 1, "c": Share(1, 3), "-c": Share(2, 3)}
        for literal, share in expected.items():
            self.assertEqual(weights(literal), share)
            self.assertIs(type(weights(literal)), Share)

    def test_clauses(self):
        for seed in range(30):
            weights = drawn_weights(seed, "abcdef")
            clause = drawn_clause(random.Random(seed), list("abcdef"), [0, 1, 2, 3, 6])
            total = Share(0)
            for literal in clause:
                total += weights(literal)
            self.assertEqual(weights(clause), total)
            self.assertIs(type(weights(clause)), Share)
        self.assertEqual(Weights(a=1, b=HALF, c=Share(1, 3))(Clause("a", "-b", "-c")), Share(13, 6))

    def test_the_clause_without_literals(self):
        self.assertEqual(Weights()(Clause()), Share(0))
        self.assertIs(type(Weights()(Clause())), Share)

    def test_errors(self):
        weights = Weights(a=1, b=0)
        for text in NO_LITERALS:
            self.refused(BadLiteral, weights, text, text=text)
            self.refused(BadLiteral, Weights(), text, text=text)
        self.refused(NoName, weights, "c", name="c")
        self.refused(NoName, weights, "-c", name="c")
        self.refused(NoName, weights, Clause("a", "-d", "e", "-c"), name="c")
        self.refused(NoName, Weights(), Clause("b", "-a1"), name="a1")


class BookTest(WeightsCase):
    def test_most_and_fits(self):
        kinds = set()
        for seed, book in enumerate(drawn_books(42, 60, TWELVE[:5], 5, [0, 1, 2, 2, 3])):
            weights = drawn_weights(seed, TWELVE[:6])
            most = Share(0)
            for number in book:
                if weights(book[number]) > most:
                    most = weights(book[number])
            self.assertEqual(weights.most(book), most)
            self.assertIs(type(weights.most(book)), Share)
            self.assertIs(weights.fits(book), most <= 1)
            kinds.add(most <= 1)
        self.assertEqual(kinds, {True, False})

    def test_the_book_without_clauses(self):
        for weights in (Weights(), Weights(a=1)):
            self.assertEqual(weights.most(Book()), Share(0))
            self.assertIs(type(weights.most(Book())), Share)
            self.assertIs(weights.fits(Book()), True)
            self.assertEqual(weights.most(Book(Clause())), Share(0))

    def test_the_edge_of_fitting(self):
        book = Book(Clause("a", "b"))
        self.assertIs(Weights(a=HALF, b=HALF).fits(book), True)
        self.assertIs(Weights(a=HALF, b=Share(10 ** 9 + 1, 2 * 10 ** 9)).fits(book), False)

    def test_no_name(self):
        book = Book.numbered([(3, Clause("b", "-a")), (5, Clause("z", "-y", "a")), (9, Clause("x"))])
        for call in (Weights(a=1, b=1).most, Weights(a=1, b=1).fits):
            self.refused(NoName, call, book, name="y")
        self.refused(NoName, Weights().most, book, name="a")
        self.refused(NoName, Weights(a=1, b=1, y=1, z=1).fits, book, name="x")

    def test_a_turning_that_suits_fits(self):
        for book in drawn_books(43, 30, TWELVE[:4], 5, [1, 2, 3]):
            for turned in suiting(book):
                self.assertIs(Weights.of(Turning(*turned), list(book.names)).fits(book), True)


class RoundingTest(WeightsCase):
    def test_rounded(self):
        weights = Weights(a=0, b=1, c=HALF, d=Share(1, 3), e=Share(2, 3), f=Share(499, 1000), g=Share(501, 1000))
        before = rows_of(weights)
        rounded = weights.rounded()
        self.assertEqual(rounded, Weights(a=0, b=1, c=HALF, d=0, e=1, f=0, g=1))
        self.assertEqual(rows_of(weights), before)
        rounded["a"] = 1
        self.assertEqual(rows_of(weights), before)
        self.assertEqual(Weights().rounded(), Weights())

    def test_rounded_weights_fit(self):
        many = 0
        for seed, book in enumerate(drawn_books(45, 400, TWELVE[:4], 3, [1, 2, 3])):
            weights = drawn_weights(seed, TWELVE[:4])
            if weights.fits(book):
                many += 1
                self.assertIs(weights.rounded().fits(book), True)
        self.assertGreater(many, 50)

    def test_halves(self):
        weights = Weights(c=HALF, a=Share(2, 4), b=0, d=1, e=Share(1, 3))
        self.assertEqual(weights.halves(), ["a", "c"])
        weights.halves().clear()
        self.assertEqual(weights.halves(), ["a", "c"])
        self.assertEqual(Weights().halves(), [])

    def test_as_turning(self):
        self.assertEqual(Weights(c=0, a=0, b=1).as_turning(), Turning("a", "c"))
        self.assertEqual(Weights().as_turning(), Turning())
        for names in itertools.product([0, 1], repeat=3):
            weights = Weights(**dict(zip("abc", names)))
            self.assertEqual(Weights.of(weights.as_turning(), list("abc")), weights)

    def test_half_left(self):
        self.refused(HalfLeft, Weights(a=0, c=HALF, b=Share(1, 3)).as_turning, name="b")
        self.refused(HalfLeft, Weights(a=1, c=HALF).as_turning, name="c")

    def test_the_weight_of_a_literal_and_its_negation(self):
        weights = drawn_weights(1, TWELVE)
        for literal in both(TWELVE):
            self.assertEqual(weights(literal) + weights(Clause(literal)), weights(literal) * 2)
