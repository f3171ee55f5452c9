"""Point 60: refutations."""

from helper import Case, NO_NAMES, choices, drawn_books, holds, state
from renamedhorn.books import Book
from renamedhorn.clauses import Clause
from renamedhorn.errors import BadName
from renamedhorn.refutations import Refutation

BOOK = Book.numbered([
    (1, Clause("a")), (2, Clause("-a", "b")), (4, Clause("-a", "-b", "c")), (7, Clause("-c", "-b")), (9, Clause("d", "e")),
])
STEPS = [(1, "a"), (2, "b"), (4, "c"), (7, None)]
SQUARE = Book(Clause("a", "b"), Clause("a", "-b"), Clause("-a", "b"), Clause("-a", "-b"))
WHEN = Refutation([(3, "b"), (4, None)])
UNLESS = Refutation([(1, "b"), (2, None)])
CUBE = Book(*[Clause(one + "a", two + "b", three + "c") for one in ("", "-") for two in ("", "-") for three in ("", "-")])


class MakingTest(Case):
    def test_what_it_keeps(self):
        for kind in (list, tuple):
            paper = Refutation(kind(STEPS))
            self.assertEqual(vars(paper), {"steps": tuple(STEPS), "name": None, "when": None, "unless": None})
        paper = Refutation((), "a", WHEN, UNLESS)
        self.assertEqual((paper.steps, paper.name), ((), "a"))
        self.assertIs(paper.when, WHEN)
        self.assertIs(paper.unless, UNLESS)

    def test_it_keeps_no_list(self):
        steps = list(STEPS)
        paper = Refutation(steps)
        steps.clear()
        self.assertEqual(paper.steps, tuple(STEPS))

    def test_keywords(self):
        paper = Refutation(steps=[], unless=UNLESS, when=WHEN, name="a")
        self.assertEqual(vars(paper), {"steps": (), "name": "a", "when": WHEN, "unless": UNLESS})

    def test_bad_name(self):
        for text in NO_NAMES:
            self.refused(BadName, Refutation, [], text, WHEN, UNLESS, text=text)
            self.refused(BadName, Refutation, STEPS, text, text=text)

    def test_depth(self):
        self.assertEqual(Refutation(STEPS).depth, 0)
        self.assertEqual(Refutation([]).depth, 0)
        split = Refutation([], "a", WHEN, UNLESS)
        self.assertEqual(split.depth, 1)
        self.assertEqual(Refutation([], "b", split, WHEN).depth, 2)
        self.assertEqual(Refutation([], "b", WHEN, split).depth, 2)
        deep = WHEN
        for _ in range(12):
            deep = Refutation([], "a", deep, UNLESS)
        self.assertEqual(deep.depth, 12)
        self.assertEqual(Refutation(STEPS, None, deep, deep).depth, 0)


class StepsTest(Case):
    def told(self, steps, facts=(), book=BOOK):
        before = state(book)
        told = Refutation(steps).refutes(book, facts)
        self.assertEqual(state(book), before)
        return told

    def test_right_ones(self):
        self.assertIs(self.told(STEPS), True)
        self.assertIs(Refutation(tuple(STEPS)).refutes(BOOK), True)
        self.assertIs(self.told([(2, "b"), (4, "c"), (7, None)], ["a"]), True)
        self.assertIs(self.told([(7, None)], ["c", "b"]), True)
        self.assertIs(self.told([(7, None)], ("c", "b", "zz", "-y")), True)
        self.assertIs(self.told([(1, None)], ["-a"]), True)
        self.assertIs(self.told([(1, None)], [], Book(Clause())), True)

    def test_steps_that_are_not_those_of_following(self):
        self.assertIs(self.told([(1, "a"), (2, "b"), (1, "a"), (4, "c"), (4, "c"), (7, None)]), True)
        self.assertIs(self.told([(2, "-a"), (1, None)], ["-b"]), True)
        self.assertIs(self.told([(1, "a"), (2, "b"), (7, "-c"), (4, None)]), True)

    def test_a_literal_is_held_even_if_it_fails(self):
        book = Book(Clause("a"), Clause("-a"), Clause("-a", "b"), Clause("a", "-b"))
        self.assertIs(self.told([(1, "a"), (2, "-a"), (1, None)], [], book), True)
        self.assertIs(self.told([(1, "a"), (2, "-a"), (3, "b"), (4, None)], [], book), True)
        self.assertIs(self.told([(1, "a"), (2, "-a"), (3, "b"), (3, None)], [], book), False)
        book = Book(Clause("a"), Clause("-a"), Clause("b", "-a"), Clause("a", "c"), Clause("-b", "-c"))
        self.assertIs(self.told([(1, "a"), (2, "-a"), (3, "b"), (4, "c"), (5, None)], [], book), True)
        self.assertIs(self.told([(1, "a"), (3, "b"), (4, "c"), (5, None)], [], book), False)
        self.assertIs(self.told([(2, "-a"), (1, None)], ["a"], book), True)

    def test_wrong_numbers(self):
        for number in (0, -1, 3, 5, 8, 999, 1000, 10 ** 20):
            self.assertIs(self.told([(number, "a"), *STEPS[1:]]), False)
            self.assertIs(self.told([*STEPS[:3], (number, None)]), False)
        self.assertIs(self.told([(1, "a"), (4, "b"), (4, "c"), (7, None)]), False)
        self.assertIs(self.told([*STEPS[:3], (9, None)]), False)

    def test_literals_that_do_not_follow(self):
        self.assertIs(self.told([(2, "b"), (4, "c"), (7, None)]), False)
        self.assertIs(self.told([(1, "a"), (4, "c"), (7, None)]), False)
        self.assertIs(self.told([(1, "a"), (2, "-b"), (4, "c"), (7, None)]), False)
        self.assertIs(self.told([(1, "a"), (2, "d"), *STEPS[1:]]), False)
        self.assertIs(self.told([(1, "A"), *STEPS]), False)
        self.assertIs(self.told([(1, "a"), (2, "b"), (9, "d"), (4, "c"), (7, None)]), False)
        self.assertIs(self.told([(1, "a"), (2, "b"), (7, None)]), False)

    def test_ends(self):
        self.assertIs(self.told([]), False)
        self.assertIs(self.told([], ["a"]), False)
        self.assertIs(self.told(STEPS[:3]), False)
        self.assertIs(self.told(STEPS[:3] + [(7, "-b")]), False)
        self.assertIs(self.told([*STEPS, (7, None)]), False)
        self.assertIs(self.told([*STEPS, (1, "a")]), False)
        self.assertIs(self.told([(1, None), *STEPS]), False)
        self.assertIs(self.told([(1, None)]), False)
        self.assertIs(self.told([(9, None)], ["-d"]), False)

    def test_facts(self):
        self.assertIs(self.told([(4, "c"), (7, None)], ["a"]), False)
        self.assertIs(self.told([(4, "c"), (7, None)], ["a", "-b"]), False)
        self.assertIs(self.told([(4, "c"), (7, None)], ["b", "a", "b"]), True)
        self.facts_are_checked(lambda facts: Refutation(STEPS).refutes(BOOK, facts))
        self.facts_are_checked(lambda facts: Refutation([]).refutes(Book(), facts))
        self.facts_are_checked(lambda facts: Refutation([], "a", WHEN, UNLESS).refutes(SQUARE, facts))

    def test_the_parts_are_not_looked_at(self):
        self.assertIs(Refutation(STEPS, None, Refutation([]), UNLESS).refutes(BOOK), True)
        self.assertIs(Refutation([], None, WHEN, UNLESS).refutes(SQUARE), False)


class SplitTest(Case):
    def test_right_ones(self):
        self.assertIs(Refutation([], "a", WHEN, UNLESS).refutes(SQUARE), True)
        self.assertIs(Refutation((), "a", WHEN, UNLESS).refutes(SQUARE, ("z",)), True)

    def test_parts_in_parts(self):
        leaves = {
            facts: Refutation([(number, None)])
            for number in CUBE
            for facts in [tuple(("-" + part).replace("--", "") for part in CUBE[number])]
        }
        sides = {
            (one, two): Refutation([], "c", leaves[(one, two, "c")], leaves[(one, two, "-c")])
            for one in ("a", "-a") for two in ("b", "-b")
        }
        parts = [Refutation([], "b", sides[(one, "b")], sides[(one, "-b")]) for one in ("a", "-a")]
        self.assertIs(Refutation([], "a", *parts).refutes(CUBE), True)
        self.assertIs(Refutation([], "a", *parts[::-1]).refutes(CUBE), False)
        self.assertIs(Refutation([], "c", *parts).refutes(CUBE), False)
        self.assertIs(parts[0].refutes(CUBE), False)
        self.assertIs(parts[0].refutes(CUBE, ["a"]), True)

    def test_a_split_inside_at_a_name_that_is_split_outside(self):
        inner = Refutation([], "a", WHEN, UNLESS)
        self.assertIs(Refutation([], "a", inner, UNLESS).refutes(SQUARE), False)
        self.assertIs(Refutation([], "a", WHEN, inner).refutes(SQUARE), False)
        self.assertIs(Refutation([], "z", inner, inner).refutes(SQUARE), True)

    def test_wrong_ones(self):
        for paper in (
            Refutation([(1, "b")], "a", WHEN, UNLESS),
            Refutation([(3, "b"), (4, None)], "a", WHEN, UNLESS),
            Refutation([], "a", UNLESS, WHEN),
            Refutation([], "a", WHEN, WHEN),
            Refutation([], "a", UNLESS, UNLESS),
            Refutation([], "b", WHEN, UNLESS),
            Refutation([], "a", WHEN, None),
            Refutation([], "a", None, UNLESS),
            Refutation([], "a"),
            Refutation([], "a", WHEN, Refutation([])),
        ):
            self.assertIs(paper.refutes(SQUARE), False)

    def test_a_name_that_is_the_name_of_a_fact(self):
        paper = Refutation([], "a", WHEN, UNLESS)
        for facts in (["a"], ["-a"], ["z", "-a"]):
            self.assertIs(paper.refutes(SQUARE, facts), False)
        self.assertIs(paper.refutes(SQUARE, ["b"]), True)

    def test_splits_do_not_count_towards_the_limit_of_facts(self):
        paper = Refutation([], "a", WHEN, UNLESS)
        self.assertIs(paper.refutes(SQUARE, [f"n{at}" for at in range(12)]), True)

    def test_what_is_refuted_has_no_model(self):
        many = 0
        for book in drawn_books(60, 60, ["a", "b"], 6, [1, 2, 2]):
            for paper in (Refutation([], "a", WHEN, UNLESS), UNLESS, WHEN, Refutation([(1, "a"), (2, None)])):
                for facts in ([], ["a"], ["-a"], ["b", "-a"]):
                    if paper.refutes(book, facts):
                        many += 1
                        found = [row for row in choices(["a", "b"]) if holds(row, book) and set(facts) <= set(row)]
                        self.assertEqual(found, [])
        self.assertGreater(many, 5)
