"""Point 64, and what points 61 and 62 say of it: the lowest model."""

from helper import Case, TWELVE, models_by_hand, parts_of, plain_cases, says_yes, state, suiting
from renamedhorn.books import Book
from renamedhorn.clauses import Clause
from renamedhorn.errors import NotSuited
from renamedhorn.following import follow
from renamedhorn.literals import in_order, name_of
from renamedhorn.lowering import lowest
from renamedhorn.settling import settle
from renamedhorn.turnings import Turning


class LowestTest(Case):
    def look_at(self, book, turned, facts):
        """Assert what point 64 says, and tell whether there is a model."""
        turning = Turning(*turned, "z9")
        before, given = state(book), list(facts)
        found = models_by_hand(book, facts)
        if not found:
            paper = self.refused_by_paper(lambda *args: lowest(args[0], turning, args[1]), book, facts)
            self.assertEqual(paper.depth, 0)
            self.assertLessEqual(max(len(part.steps) for part in parts_of(paper)), 25)
        else:
            model = lowest(book, turning, facts)
            yes = {literal for literal in model if says_yes(turned, literal)}
            self.assertIs(type(model), tuple)
            self.assertIn(model, found)
            for other in found:
                self.assertLessEqual(yes, set(other))
            self.assertEqual(model, lowest(book, turning, tuple(facts + facts)))
            self.assertEqual(model, self.by_following(book, turned, facts))
        self.assertEqual((state(book), list(facts)), (before, given))
        return bool(found)

    def by_following(self, book, turned, facts):
        held = follow(book, facts).held
        names = [name for name in book.names if name not in [name_of(literal) for literal in held]]
        return tuple(in_order([*held, *["-" * (name not in turned) + name for name in names]]))

    def test_against_all_models(self):
        found = [self.look_at(*case) for case in plain_cases(640)]
        self.assertGreater(found.count(True), 100)
        self.assertGreater(found.count(False), 100)

    def test_known_by_hand(self):
        book = Book(Clause("a", "b"), Clause("-b", "-c"))
        self.assertEqual(lowest(book, Turning("a")), ("a", "-b", "-c"))
        self.assertEqual(lowest(book, Turning("a"), ["c"]), ("a", "-b", "c"))
        self.assertEqual(lowest(book, Turning("b")), ("-a", "b", "-c"))
        self.assertEqual(lowest(book, Turning("a"), ["z", "-y", "-a"]), ("-a", "b", "-c", "-y", "z"))
        self.assertEqual(lowest(Book(), Turning("z"), ["b", "-a", "z"]), ("-a", "b", "z"))
        self.assertEqual(lowest(Book(), Turning("a")), ())

    def test_settling_gives_the_lowest_model_under_the_first_turning(self):
        many = 0
        for book, _, facts in plain_cases(640):
            first = Turning(*suiting(book)[0])
            if models_by_hand(book, facts):
                many += 1
                self.assertEqual(settle(book, facts).model, lowest(book, first, facts))
            else:
                paper = self.refused_by_paper(lambda *args: lowest(args[0], first, args[1]), book, facts)
                self.assertEqual(settle(book, facts).paper.steps, paper.steps)
        self.assertGreater(many, 100)

    def test_not_suited(self):
        book = Book(Clause(), Clause("a", "-b"), Clause("a", "b"), Clause("-a", "b"), Clause("b", "c"))
        book -= 2
        self.refused(NotSuited, lowest, book, Turning(), number=3)
        self.refused(NotSuited, lowest, book, Turning("a"), ["a", "-b"], number=4)
        self.refused_by_paper(lambda *args: lowest(args[0], Turning("b"), args[1]), book, ["a", "-b"])

    def test_errors_of_the_facts(self):
        for book in (Book(), Book(Clause("a", "b")), Book(Clause()), Book(Clause("c"), Clause("-c"))):
            for turning in (Turning(), Turning("a"), Turning("a", "b", "z")):
                self.facts_are_checked(lambda facts: lowest(book, turning, facts))

    def test_twelve_names_and_twelve_facts(self):
        book = Book(*[Clause("-" + one, other) for one, other in zip(TWELVE, TWELVE[1:])])
        self.assertEqual(lowest(book, Turning(), ["a"]), tuple(TWELVE))
        self.assertEqual(lowest(book, Turning(*TWELVE), ["-l"]), tuple("-" + name for name in TWELVE))
        self.assertEqual(lowest(book, Turning()), tuple("-" + name for name in TWELVE))
        self.assertEqual(lowest(book, Turning(*TWELVE)), tuple(TWELVE))
        others = ["x" + name for name in TWELVE]
        self.assertEqual(lowest(book, Turning(*TWELVE), others), (*TWELVE, *others))
