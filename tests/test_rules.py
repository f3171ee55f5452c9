"""Points 65 to 67: rules, rounds and derivations."""

from helper import (
    Case, NO_LITERALS, THIRTEEN, TWELVE, both, models_by_hand, opposite, plain_cases, says_yes, state,
)
from renamedhorn.books import Book
from renamedhorn.clauses import Clause
from renamedhorn.errors import BadLiteral, BothSigns, NotHeld, NotSuited, TooMany
from renamedhorn.literals import in_order
from renamedhorn.lowering import lowest
from renamedhorn.rules import Rule, chained, derivation, rounds, rules
from renamedhorn.turnings import Turning

UNSUITED = Book(Clause("a", "-b"), Clause("b", "c"), Clause("-b", "c"), Clause("d", "b"))


def told(rows):
    """What rules keep, as tuples."""
    return [(rule.number, rule.head, rule.body) for rule in rows]


def rules_by_hand(book, turned):
    """The rules of a book as tuples, by the words of point 65."""
    rows = []
    for number in book:
        yes = [literal for literal in book[number] if says_yes(turned, literal)]
        body = [opposite(literal) for literal in book[number] if literal not in yes]
        rows.append((number, yes[0] if yes else None, tuple(in_order(body))))
    return rows


def rounds_by_hand(book, turned, facts):
    """The rounds of a book and facts, by the words of point 66."""
    found = [tuple(in_order([fact for fact in facts if says_yes(turned, fact)]))]
    while True:
        earlier = {literal for row in found for literal in row}
        heads = [
            head
            for _, head, body in rules_by_hand(book, turned)
            if head is not None and head not in earlier and set(body) <= earlier
        ]
        if not heads:
            return found
        found.append(tuple(in_order(heads)))


class RulesTest(Case):
    def test_against_the_definition(self):
        seen = set()
        for book, turned, _ in plain_cases(650):
            before = state(book)
            found = rules(book, Turning(*turned, "z9"))
            self.assertIs(type(found), list)
            self.assertEqual({type(rule) for rule in found} - {Rule}, set())
            self.assertEqual(told(found), rules_by_hand(book, turned))
            self.assertEqual(state(book), before)
            seen |= {(head is None, bool(body)) for _, head, body in told(found)}
        self.assertEqual(len(seen), 4)

    def test_known_by_hand(self):
        book = Book(Clause("c", "-b", "-a"), Clause("-a", "-b"), Clause("d"), Clause())
        self.assertEqual(told(rules(book, Turning())), [
            (1, "c", ("a", "b")), (2, None, ("a", "b")), (3, "d", ()), (4, None, ()),
        ])
        self.assertEqual(told(rules(book, Turning("b", "c", "d"))), [
            (1, "-b", ("a", "-c")), (2, "-b", ("a",)), (3, None, ("-d",)), (4, None, ()),
        ])
        self.assertEqual(told(rules(Book(Clause("a", "b", "c")), Turning("a", "c"))), [(1, "b", ("-a", "-c"))])
        self.assertEqual(rules(Book(), Turning("a")), [])
        self.assertEqual(set(vars(rules(book, Turning())[0])), {"number", "head", "body"})

    def test_every_list_is_new(self):
        book = Book(Clause("a"))
        rules(book, Turning()).clear()
        rounds(book, Turning()).clear()
        self.assertEqual((len(rules(book, Turning())), len(rounds(book, Turning()))), (1, 2))

    def test_not_suited(self):
        self.refused(NotSuited, rules, UNSUITED, Turning(), number=2)
        self.refused(NotSuited, rules, UNSUITED, Turning("c"), number=4)
        self.refused(NotSuited, rules, UNSUITED, Turning("b"), number=1)


class RoundsTest(Case):
    def test_against_the_definition(self):
        lengths = []
        for book, turned, facts in plain_cases(650):
            before, given = state(book), list(facts)
            for kind in (list, tuple):
                found = rounds(book, Turning(*turned, "z9"), kind(facts + facts[:1]))
                self.assertIs(type(found), list)
                self.assertEqual(found, rounds_by_hand(book, turned, facts))
            self.assertEqual((state(book), facts), (before, given))
            lengths.append(len(found))
        self.assertGreater(len([length for length in lengths if length > 2]), 20)
        self.assertIn(4, lengths)

    def test_known_by_hand(self):
        book = Book(Clause("-a", "b"), Clause("-b", "c"), Clause("-a", "-b", "c"), Clause("-c", "-d"), Clause("-c", "e"))
        self.assertEqual(rounds(book, Turning()), [()])
        self.assertEqual(rounds(book, Turning(), ["-d", "a", "-e"]), [("a",), ("b",), ("c",), ("e",)])
        self.assertEqual(rounds(book, Turning(), ("x", "c", "-y", "b")), [("b", "c", "x"), ("e",)])
        self.assertEqual(rounds(book, Turning("d"), ["c", "-d"]), [("c", "-d"), ("e",)])
        self.assertEqual(rounds(book, Turning("d"), ["c"]), [("c",), ("-d", "e")])
        self.assertEqual(rounds(Book(Clause("b"), Clause("a"), Clause("a", "-b")), Turning()), [(), ("a", "b")])
        self.assertEqual(rounds(Book(), Turning(), ["-a"]), [()])

    def test_what_is_chained(self):
        found = []
        for book, turned, facts in plain_cases(650):
            turning = Turning(*turned, "z9")
            found.append(chained(book, turning, facts))
            self.assertIs(found[-1], bool(models_by_hand(book, facts)))
            if found[-1]:
                model = lowest(book, turning, facts)
                yes = {literal for literal in model if says_yes(turned, literal)}
                self.assertEqual({literal for row in rounds(book, turning, facts) for literal in row}, yes)
        self.assertGreater(found.count(True), 100)
        self.assertGreater(found.count(False), 100)

    def test_chained_by_hand(self):
        book = Book(Clause("-a", "b"), Clause("-b", "-c"))
        self.assertIs(chained(book, Turning()), True)
        self.assertIs(chained(book, Turning(), ["a", "-c"]), True)
        self.assertIs(chained(book, Turning(), ["a", "c"]), False)
        self.assertIs(chained(book, Turning(), ("a", "-b")), False)
        self.assertIs(chained(Book(Clause()), Turning()), False)
        self.assertIs(chained(Book(), Turning("a"), ["a"]), True)

    def test_not_suited(self):
        for call in (rounds, chained):
            self.refused(NotSuited, call, UNSUITED, Turning(), number=2)
            self.refused(NotSuited, call, UNSUITED, Turning("c"), ["a", "-c"], number=4)

    def test_errors_of_the_facts(self):
        for book in (Book(), UNSUITED, Book(Clause("-a", "b")), Book(Clause())):
            for call in (rounds, chained):
                self.facts_are_checked(lambda facts: call(book, Turning(), facts))


class DerivationTest(Case):
    def look_at(self, book, turned, facts, literal):
        """Assert that the derivation of a literal of the rounds is as point 67 says, and return its length."""
        numbers = derivation(book, Turning(*turned, "z9"), literal, facts)
        self.assertIs(type(numbers), list)
        self.assertEqual(len(numbers), len(set(numbers)))
        self.assertLessEqual(len(numbers), 24)
        if literal in facts:
            self.assertEqual(numbers, [])
            return 0
        known = {number: (head, body) for number, head, body in rules_by_hand(book, turned)}
        given = [fact for fact in facts if says_yes(turned, fact)]
        for at, number in enumerate(numbers):
            head, body = known[number]
            self.assertIsNotNone(head)
            self.assertLessEqual(set(body), {*given, *[known[earlier][0] for earlier in numbers[:at]]})
            used = [part for later in numbers[at + 1:] for part in known[later][1]]
            self.assertTrue(head in used or at == len(numbers) - 1)
        self.assertEqual(known[numbers[-1]][0], literal)
        return len(numbers)

    def test_all_literals(self):
        lengths, refused = [], 0
        for book, turned, facts in plain_cases(650):
            before = state(book)
            held = {literal for row in rounds_by_hand(book, turned, facts) for literal in row}
            for literal in both([*book.names, "x9", "z"]):
                if literal in held:
                    lengths.append(self.look_at(book, turned, facts, literal))
                else:
                    refused += 1
                    self.refused(NotHeld, derivation, book, Turning(*turned), literal, facts, literal=literal)
            self.assertEqual(state(book), before)
        self.assertEqual(set(range(5)) - set(lengths), set())
        self.assertGreater(refused, 100)

    def test_twelve_rules_in_a_row(self):
        book = Book(*[Clause(*["-" + part for part in TWELVE[:at][-5:]], TWELVE[at]) for at in reversed(range(12))])
        self.assertEqual(derivation(book, Turning(), "l"), list(range(12, 0, -1)))
        self.assertEqual(derivation(book, Turning(), "c", ["x", "a"]), [11, 10])
        self.assertEqual(derivation(book, Turning(), "a", ("x", "a", "x")), [])

    def test_no_rule_without_need(self):
        book = Book(Clause("b"), Clause("c"), Clause("-c", "d"), Clause("-b", "a"), Clause("-d", "-b", "a"), Clause("e"))
        self.assertEqual(derivation(book, Turning(), "a"), [1, 4])
        self.assertEqual(derivation(book, Turning(), "d"), [2, 3])

    def test_errors_in_their_order(self):
        for text in NO_LITERALS:
            self.refused(BadLiteral, derivation, UNSUITED, Turning(), text, ["B", *THIRTEEN], text=text)
        self.refused(BadLiteral, derivation, UNSUITED, Turning(), "a", ["b", "B", *THIRTEEN], text="B")
        self.refused(BothSigns, derivation, UNSUITED, Turning(), "z", ["b", "-b"], name="b")
        self.refused(TooMany, derivation, UNSUITED, Turning(), "z", THIRTEEN, limit=12)
        self.refused(NotSuited, derivation, UNSUITED, Turning(), "z", ["a"], number=2)
        self.refused(NotHeld, derivation, Book(Clause("-a", "b")), Turning(), "b", literal="b")
        self.refused(NotHeld, derivation, Book(Clause("-a", "b")), Turning(), "-z", ["-z", "a"], literal="-z")
        self.refused(NotHeld, derivation, Book(Clause("-a", "b")), Turning("z"), "z", ["z", "a"], literal="z")

    def test_errors_of_the_facts(self):
        for book in (Book(), UNSUITED, Book(Clause("-a", "b"))):
            self.facts_are_checked(lambda facts: derivation(book, Turning(), "a", facts))
