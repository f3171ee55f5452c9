"""Points 12 to 16: turnings."""

import itertools
import operator

from helper import Case
from renamedhorn.clauses import Clause
from renamedhorn.errors import BadLiteral, BadName, TooMany
from renamedhorn.turnings import Turning

TWELVE = ["a", "b", "c", "d", "e", "f", "g", "h", "i", "j", "k", "l"]
SETS = [list(row) for length in range(5) for row in itertools.combinations(["a", "a1", "b", "c"], length)]
CLAUSES = [
    Clause(*[sign + name for sign, name in zip(signs, ["a", "a1", "b"]) if sign != "x"])
    for signs in itertools.product(["", "-", "x"], repeat=3)
]


def turned_by_hand(names, literal):
    """What the turning of the names makes of a literal."""
    if literal.removeprefix("-") not in names:
        return literal
    return literal.removeprefix("-") if literal.startswith("-") else "-" + literal


def comes_first(one, other):
    """Tell whether the turning of one set of names stands before that of the other."""
    return min(set(one) ^ set(other)) in other if set(one) != set(other) else False


class MakingTest(Case):
    def test_any_order(self):
        for row in itertools.permutations(["a", "a1", "b", "z"]):
            self.assertEqual(Turning(*row).turned, ("a", "a1", "b", "z"))

    def test_turned_is_a_tuple_that_is_set(self):
        self.assertEqual(vars(Turning("b", "a"))["turned"], ("a", "b"))
        self.assertEqual(Turning().turned, ())

    def test_names_passed_twice_count_once(self):
        self.assertEqual(Turning("b", "a", "b", "b").turned, ("a", "b"))
        self.assertEqual(Turning(*TWELVE, *TWELVE).turned, tuple(TWELVE))

    def test_bad_name(self):
        self.refused(BadName, Turning, "a", "-b", "C", text="-b")
        self.refused(BadName, Turning, "", text="")
        self.refused(BadName, Turning, "z", "Z", "A", text="Z")

    def test_bad_name_goes_before_too_many(self):
        self.refused(BadName, Turning, *TWELVE, "m", "n", "", text="")

    def test_too_many(self):
        self.assertEqual(len(Turning(*TWELVE)), 12)
        self.refused(TooMany, Turning, *TWELVE, "m", limit=12)
        self.refused(TooMany, Turning, *TWELVE, "m", "n", limit=12)

    def test_limit(self):
        self.assertEqual(Turning.LIMIT, 12)


class ReadingTest(Case):
    def test_iteration_and_len(self):
        self.assertEqual(list(Turning("b", "a1", "a")), ["a", "a1", "b"])
        self.assertEqual(list(Turning()), [])
        for row in SETS:
            self.assertEqual(len(Turning(*row)), len(row))

    def test_in(self):
        turning = Turning("a", "b")
        self.assertIs("a" in turning, True)
        self.assertIs("b" in turning, True)
        for other in ("c", "", "-a", "A", "a b", "a1", 0, 1, None, [], {}, ("a",), turning):
            with self.subTest(other=other):
                self.assertIs(other in turning, False)
                self.assertIs(other in Turning(), False)

    def test_index(self):
        turning = Turning("a", "b")
        self.assertIs(turning["a"], True)
        self.assertIs(turning["c"], False)
        self.assertIs(Turning()["a"], False)
        for text in ("", "-a", "A", "a b", "abcdefghi"):
            self.refused(BadName, operator.getitem, turning, text, text=text)

    def test_strings(self):
        self.assertEqual(str(Turning("b", "a", "a1")), "a a1 b")
        self.assertEqual(str(Turning("b")), "b")
        self.assertEqual(str(Turning()), "0")


class CallTest(Case):
    def test_literals(self):
        for row in SETS:
            turning = Turning(*row)
            for literal in ("a", "-a", "a1", "-a1", "d", "-d"):
                turned = turned_by_hand(row, literal)
                self.assertEqual(turning(literal), turned)
                self.assertEqual(turning(turning(literal)), literal)
                self.assertIs(turning.says_yes(literal), not turned.startswith("-"))

    def test_clauses(self):
        for row in SETS:
            turning = Turning(*row)
            for clause in CLAUSES:
                literals = clause.literals
                turned = turning(clause)
                self.assertIs(type(turned), Clause)
                self.assertEqual(turned, Clause(*[turned_by_hand(row, literal) for literal in literals]))
                self.assertEqual(turning(turned), clause)
                self.assertEqual(clause.literals, literals)

    def test_bad_literals(self):
        for text in ("", "-", "--a", "A", "a b", "a | b", "0"):
            self.refused(BadLiteral, Turning("a"), text, text=text)
            self.refused(BadLiteral, Turning().says_yes, text, text=text)

    def test_suits(self):
        for row in SETS:
            turning = Turning(*row)
            for clause in CLAUSES:
                yes = [literal for literal in clause.literals if turned_by_hand(row, literal)[0] != "-"]
                self.assertIs(turning.suits(clause), len(yes) <= 1)

    def test_suits_by_the_number_of_yes(self):
        turning = Turning("a")
        self.assertIs(turning.suits(Clause()), True)
        self.assertIs(turning.suits(Clause("a", "-b")), True)
        self.assertIs(turning.suits(Clause("-a", "-b")), True)
        self.assertIs(turning.suits(Clause("-a", "b")), False)
        self.assertIs(turning.suits(Clause("a", "b", "c", "-d")), False)


class OperatorTest(Case):
    def test_as_sets(self):
        signs = (operator.xor, operator.and_, operator.or_, operator.sub)
        for one in SETS:
            for other in SETS:
                first, second = Turning(*one), Turning(*other)
                for sign in signs:
                    self.assertEqual(sign(first, second).turned, tuple(sorted(sign(set(one), set(other)))))
                self.assertEqual(first.apart(second), len(set(one) ^ set(other)))
                self.assertIs(type(first ^ second), Turning)
                self.assertEqual((first.turned, second.turned), (tuple(one), tuple(other)))

    def test_one_after_the_other(self):
        for one in SETS:
            for other in SETS:
                first, second = Turning(*one), Turning(*other)
                for part in [*CLAUSES, "a", "-a", "b", "-d"]:
                    self.assertEqual((first ^ second)(part), first(second(part)))

    def test_limits_of_xor_and_or(self):
        six, others = Turning(*TWELVE[:6]), Turning(*TWELVE[6:])
        self.assertEqual((six ^ others).turned, tuple(TWELVE))
        self.assertEqual((six | others).turned, tuple(TWELVE))
        seven = Turning(*TWELVE[6:], "m")
        for sign in (operator.xor, operator.or_):
            self.refused(TooMany, sign, six, seven, limit=12)
            self.refused(TooMany, sign, seven, six, limit=12)
        self.assertEqual((Turning(*TWELVE) ^ Turning("l", "m")).turned, (*TWELVE[:11], "m"))
        self.refused(TooMany, operator.or_, Turning(*TWELVE), Turning("l", "m"), limit=12)
        self.assertEqual((Turning(*TWELVE) & Turning("l", "m")).turned, ("l",))
        self.assertEqual((Turning(*TWELVE) - Turning("l", "m")).turned, tuple(TWELVE[:11]))
        self.assertEqual(Turning(*TWELVE).apart(Turning("l", "m")), 12)
        self.assertEqual(Turning(*TWELVE).apart(Turning("m", "n")), 14)


class MedianTest(Case):
    def test_as_sets(self):
        for rows in itertools.combinations_with_replacement(SETS, 3):
            names = [name for name in ("a", "a1", "b", "c") if len([row for row in rows if name in row]) >= 2]
            for one, two, three in itertools.permutations([Turning(*row) for row in rows]):
                self.assertEqual(Turning.median(one, two, three).turned, tuple(names))

    def test_limit(self):
        one, two, three = Turning(*TWELVE[:8]), Turning(*TWELVE[4:]), Turning(*TWELVE[:4], *TWELVE[8:])
        fourth = Turning(*TWELVE[:4], *TWELVE[9:], "m")
        for row in itertools.permutations([one, two, three]):
            self.assertEqual(Turning.median(*row).turned, tuple(TWELVE))
        for row in itertools.permutations([one, two, fourth]):
            self.assertEqual(Turning.median(*row).turned, (*TWELVE[:8], *TWELVE[9:]))
        names = [*TWELVE, "m"]
        rows = [Turning(*names[:9]), Turning(*names[5:]), Turning(*names[:5], *names[9:])]
        for row in itertools.permutations(rows):
            self.refused(TooMany, Turning.median, *row, limit=12)


class OrderTest(Case):
    def test_all_comparisons(self):
        for one in SETS:
            for other in SETS:
                first, second = Turning(*one), Turning(*other[::-1])
                rank = comes_first(other, one) - comes_first(one, other)
                with self.subTest(one=one, other=other):
                    self.ordered((first, second), rank, 0)

    def test_the_first_name_apart_decides(self):
        self.assertIs(Turning("b", "c") < Turning("a"), True)
        self.assertIs(Turning("a", "b") > Turning("a", "c", "d"), True)
        self.assertIs(Turning() < Turning("z"), True)
        self.assertIs(Turning("a") < Turning("a", "z"), True)
        self.assertIs(Turning("a1") < Turning("a"), True)

    def test_a_turning_and_itself(self):
        for row in SETS:
            turning = Turning(*row)
            self.ordered((turning, turning), 0, 0)

    def test_more_than_twelve_names_apart(self):
        self.assertIs(Turning("m", "n") < Turning(*TWELVE), True)
        self.assertIs(Turning(*TWELVE) >= Turning("m", "n"), True)

    def test_other_values(self):
        for value in ("a", ("a",), ["a"], None, 0, Clause("a")):
            self.assertIs(Turning("a") == value, False)
            self.assertIs(Turning("a") != value, True)
            for sign in (operator.lt, operator.le, operator.gt, operator.ge):
                self.assertRaises(TypeError, sign, Turning("a"), value)
