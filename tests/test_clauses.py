"""Points 10 and 11: clauses."""

import itertools
import operator

from helper import Case
from renamedhorn.clauses import Clause
from renamedhorn.errors import BadLiteral, BothSigns, TooMany
from renamedhorn.literals import in_order

SETS = [
    [], ["a"], ["-a"], ["b"], ["a", "b"], ["-a", "b"], ["a", "-b"], ["-a", "-b", "c"], ["a", "b", "c"],
    ["c", "-d"], ["c", "-d", "e", "f1"], ["a", "b", "c", "-d", "e", "f"],
]


class MakingTest(Case):
    def test_any_order(self):
        for row in itertools.permutations(["a", "-a1", "-b", "c"]):
            self.assertEqual(Clause(*row).literals, ("a", "-a1", "-b", "c"))

    def test_literals_is_a_tuple_that_is_set(self):
        self.assertEqual(vars(Clause("b", "-a"))["literals"], ("-a", "b"))
        self.assertEqual(Clause().literals, ())

    def test_repeats_count_once(self):
        self.assertEqual(Clause("b", "-a", "b", "-a", "-a").literals, ("-a", "b"))
        six = ["a", "b", "c", "d", "e", "f"]
        self.assertEqual(Clause(*six, *six).literals, tuple(six))

    def test_bad_literal(self):
        self.refused(BadLiteral, Clause, "", text="")
        self.refused(BadLiteral, Clause, "a", "--b", "C", text="--b")
        self.refused(BadLiteral, Clause, "z", "Z", "A", text="Z")

    def test_bad_literal_goes_before_the_others(self):
        self.refused(BadLiteral, Clause, "a", "-a", "A", text="A")
        self.refused(BadLiteral, Clause, "a", "b", "c", "d", "e", "f", "g", "G", text="G")

    def test_both_signs(self):
        self.refused(BothSigns, Clause, "a", "-a", name="a")
        self.refused(BothSigns, Clause, "-a", "a", name="a")
        self.refused(BothSigns, Clause, "c", "-c", "b", "-b", "a", name="b")

    def test_both_signs_go_before_too_many(self):
        self.refused(BothSigns, Clause, "a", "b", "c", "d", "e", "f", "g", "-g", name="g")
        self.refused(BothSigns, Clause, "a", "b", "c", "d", "e", "f", "-f", name="f")

    def test_too_many(self):
        self.refused(TooMany, Clause, "a", "b", "c", "d", "e", "f", "g", limit=6)
        self.refused(TooMany, Clause, *["-" + sign for sign in "abcdefgh"], limit=6)
        self.assertEqual(len(Clause("a", "b", "c", "d", "e", "-f")), 6)

    def test_limit(self):
        self.assertEqual(Clause.LIMIT, 6)


class ReadingTest(Case):
    def test_iteration(self):
        self.assertEqual(list(Clause("b", "-a", "c1")), ["-a", "b", "c1"])
        self.assertEqual(list(Clause()), [])

    def test_two_iterations_at_once(self):
        clause = Clause("b", "-a")
        self.assertEqual([(one, other) for one in clause for other in clause],
                         [("-a", "-a"), ("-a", "b"), ("b", "-a"), ("b", "b")])

    def test_len(self):
        for row in SETS:
            self.assertEqual(len(Clause(*row)), len(row))

    def test_in(self):
        clause = Clause("a", "-b")
        self.assertIs("a" in clause, True)
        self.assertIs("-b" in clause, True)
        for other in ("-a", "b", "c", "", "-", "--a", "A", "a | -b", 1, None, [], {}, ("a",), clause):
            with self.subTest(other=other):
                self.assertIs(other in clause, False)
                self.assertIs(other in Clause(), False)

    def test_names(self):
        self.assertEqual(Clause("b", "-a", "-ab").names, ("a", "ab", "b"))
        self.assertEqual(Clause().names, ())

    def test_positives(self):
        for row in SETS:
            self.assertEqual(Clause(*row).positives, len([literal for literal in row if literal[0] != "-"]))

    def test_strings(self):
        self.assertEqual(str(Clause("b", "-a", "c")), "-a | b | c")
        self.assertEqual(str(Clause("-a")), "-a")
        self.assertEqual(str(Clause()), "0")


class ComparisonTest(Case):
    def test_as_sets(self):
        for one in SETS:
            for other in SETS:
                first, second = Clause(*one), Clause(*other[::-1])
                with self.subTest(one=one, other=other):
                    self.assertIs(first == second, set(one) == set(other))
                    self.assertIs(first != second, set(one) != set(other))
                    self.assertIs(first <= second, set(one) <= set(other))
                    self.assertIs(first < second, set(one) < set(other))

    def test_a_clause_and_itself(self):
        for row in SETS:
            clause = Clause(*row)
            self.assertIs(clause == clause, True)
            self.assertIs(clause <= clause, True)
            self.assertIs(clause < clause, False)

    def test_other_values(self):
        for value in ("a", ("a",), ["a"], None, 0, {"a"}):
            self.assertIs(Clause("a") == value, False)
            self.assertIs(Clause("a") != value, True)
            self.assertRaises(TypeError, operator.lt, Clause("a"), value)
            self.assertRaises(TypeError, operator.le, Clause("a"), value)


class OperatorTest(Case):
    def test_and_and_minus(self):
        for one in SETS:
            for other in SETS:
                first, second = Clause(*one), Clause(*other)
                self.assertEqual((first & second).literals, tuple(in_order(list(set(one) & set(other)))))
                self.assertEqual((first - second).literals, tuple(in_order(list(set(one) - set(other)))))
                self.stay([(first, one), (second, other)])

    def test_or(self):
        self.assertEqual((Clause("c", "-a") | Clause("-a", "b")).literals, ("-a", "b", "c"))
        self.assertEqual((Clause() | Clause("b")).literals, ("b",))
        self.assertEqual((Clause() | Clause()).literals, ())
        six = Clause("a", "b", "c") | Clause("d", "e", "f", "a")
        self.assertEqual(six.literals, ("a", "b", "c", "d", "e", "f"))
        self.assertEqual((six | six).literals, six.literals)

    def test_or_refuses_both_signs(self):
        one, other = Clause("a", "-b", "c"), Clause("-c", "b", "d")
        self.refused(BothSigns, operator.or_, one, other, name="b")
        self.refused(BothSigns, operator.or_, other, one, name="b")
        self.stay([(one, ["a", "-b", "c"]), (other, ["b", "-c", "d"])])

    def test_or_refuses_both_signs_before_too_many(self):
        one, other = Clause("a", "b", "c", "d"), Clause("-d", "e", "f", "g")
        self.refused(BothSigns, operator.or_, one, other, name="d")

    def test_or_refuses_too_many(self):
        one, other = Clause("a", "b", "c", "d"), Clause("d", "e", "f", "g")
        self.refused(TooMany, operator.or_, one, other, limit=6)
        self.stay([(one, ["a", "b", "c", "d"]), (other, ["d", "e", "f", "g"])])

    def test_in_place_forms_give_a_new_clause(self):
        clause = old = Clause("a", "b")
        clause |= Clause("c")
        clause &= Clause("a", "c")
        clause -= Clause("a")
        self.assertEqual(clause.literals, ("c",))
        self.stay([(old, ["a", "b"])])

    def stay(self, rows):
        """Assert that clauses still have the literals that they were made of."""
        for clause, literals in rows:
            self.assertEqual(clause.literals, tuple(in_order(literals)))
