"""Points 5 and 6: names and literals."""

import itertools

from helper import Case
from renamedhorn.errors import BadLiteral
from renamedhorn.literals import in_order, is_literal, is_name, is_positive, name_of, negated

NAMES = ["a", "z", "m", "ab", "a0", "a9", "z9z9z9z9", "abcdefgh", "a1234567"]
NO_NAMES = [
    "", "abcdefghi", "a12345678", "0", "9a", "A", "Aa", "aA", "aZ", " ", " a", "a ", "a b", "\n", "a\n", "\na",
    "a_", "_a", "a-", "a-b", "a|b", "a.", "a/b", "`", "{", "a:", "a@", "a[", "0a", "+a", "a+", "~a",
]
NO_LITERALS = [*NO_NAMES, *["-" + text for text in NO_NAMES], "--a", "---a", "- a", "a-", "-a-", "-abcdefghi", "+a"]


class NamesTest(Case):
    def test_names(self):
        for text in NAMES:
            with self.subTest(text=text):
                self.assertIs(is_name(text), True)

    def test_no_names(self):
        for text in [*NO_NAMES, "-a", "-", "--"]:
            with self.subTest(text=text):
                self.assertIs(is_name(text), False)

    def test_every_sign_at_both_places(self):
        small = "abcdefghijklmnopqrstuvwxyz"
        for code in [10, *range(32, 127)]:
            sign = chr(code)
            with self.subTest(sign=sign):
                self.assertIs(is_name(sign), sign in small)
                self.assertIs(is_name("b" + sign), sign in small + "0123456789")
                self.assertIs(is_name("b" + sign + "b"), sign in small + "0123456789")
                self.assertIs(is_literal(sign + "b"), sign in small + "-")

    def test_each_length(self):
        for length in range(12):
            with self.subTest(length=length):
                self.assertIs(is_name("a" * length), 1 <= length <= 8)
                self.assertIs(is_literal("-" + "a" * length), 1 <= length <= 8)


class LiteralsTest(Case):
    def test_literals(self):
        for text in NAMES:
            with self.subTest(text=text):
                self.assertIs(is_literal(text), True)
                self.assertIs(is_literal("-" + text), True)

    def test_no_literals(self):
        for text in NO_LITERALS:
            with self.subTest(text=text):
                self.assertIs(is_literal(text), False)

    def test_parts_of_a_literal(self):
        for name in NAMES:
            with self.subTest(name=name):
                self.assertEqual(name_of(name), name)
                self.assertEqual(name_of("-" + name), name)
                self.assertIs(is_positive(name), True)
                self.assertIs(is_positive("-" + name), False)
                self.assertEqual(negated(name), "-" + name)
                self.assertEqual(negated("-" + name), name)

    def test_bad_literals(self):
        for text in NO_LITERALS:
            for function in (name_of, is_positive, negated):
                with self.subTest(text=text, function=function):
                    self.refused(BadLiteral, function, text, text=text)


class OrderTest(Case):
    def test_repeats_and_both_signs(self):
        self.assertEqual(in_order(["b", "-a", "b", "a", "-b", "-a"]), ["a", "-a", "b", "-b"])

    def test_order_of_names_goes_first(self):
        expected = ["a", "-a", "a0", "-a0", "a1", "aa", "-aa", "-b", "z"]
        for shift in range(len(expected)):
            self.assertEqual(in_order(expected[shift:] + expected[:shift]), expected)
        self.assertEqual(in_order(expected[::-1]), expected)

    def test_every_order_of_a_few(self):
        for row in itertools.permutations(["a", "-a", "-ab", "b"]):
            self.assertEqual(in_order(list(row)), ["a", "-a", "-ab", "b"])

    def test_empty_list(self):
        self.assertEqual(in_order([]), [])

    def test_the_list_is_new_and_the_given_one_stays(self):
        for row in (["a", "-b"], ["-b", "a", "a"], []):
            given = list(row)
            result = in_order(given)
            self.assertIsInstance(result, list)
            self.assertIsNot(result, given)
            result.append("c")
            self.assertEqual(given, row)

    def test_first_bad_literal_in_the_order_of_the_list(self):
        self.refused(BadLiteral, in_order, ["b", "-B", "a", "A"], text="-B")
        self.refused(BadLiteral, in_order, ["--a", ""], text="--a")
        self.refused(BadLiteral, in_order, ["a", "-a", ""], text="")
        self.refused(BadLiteral, in_order, ["z", "Z", "A"], text="Z")
