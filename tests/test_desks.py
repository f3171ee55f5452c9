"""Points 70 to 79 and 92: the desk."""

from desk_helper import DeskCase, moved_by_hand, shown, told
from helper import NO_LITERALS, THIRTEEN, TWELVE, drawn_books, drawn_halved_books, says_yes, state, subsets, suiting
from renamedhorn.books import Book
from renamedhorn.clauses import Clause
from renamedhorn.desks import Desk
from renamedhorn.errors import (
    BadLiteral, BothSigns, EditRefused, NoClause, NoFact, NoName, NothingAhead, NothingBack, NoTurning, NotPlain,
    TooMany,
)
from renamedhorn.rings import first_ring
from renamedhorn.standings import standing
from renamedhorn.turnings import Turning

SQUARE = [Clause("a", "b"), Clause("a", "-b"), Clause("-a", "b"), Clause("-a", "-b")]


class NewDeskTest(DeskCase):
    def test_books(self):
        for book in [Book(), Book(*SQUARE), *drawn_books(70, 40, TWELVE[:4], 8, [0, 1, 2, 2, 3])]:
            clauses = [book[number] for number in book]
            desk = Desk(*clauses)
            rows = suiting(book)
            self.assertEqual(shown(desk), (state(Book(*clauses)), (), rows[0] if rows else None, 0, 0, (), False))
            if rows:
                self.assertEqual(shown(Desk(*clauses, strict=True))[:-1], shown(desk)[:-1])
                self.assertIs(Desk(*clauses, strict=True).strict, True)
            else:
                with self.assertRaises(NotPlain) as caught:
                    Desk(*clauses, strict=True)
                self.assertEqual(caught.exception.ring.name, first_ring(book).name)
                self.assertTrue(caught.exception.ring.bars(Book(*clauses)))
                self.assertIs(Desk(*clauses, strict=False).strict, False)

    def test_errors_of_the_book(self):
        for strict in (False, True):
            self.refused(TooMany, lambda: Desk(*SQUARE * 6, Clause("a"), strict=strict), limit=24)
            clauses = [Clause(name) for name in TWELVE[:-1]]
            self.refused(TooMany, lambda: Desk(*clauses, Clause("k", "y", "z"), *SQUARE, strict=strict), limit=12)
        self.assertEqual(len(Desk(*SQUARE * 6).book), 24)


class BookChangesTest(DeskCase):
    def test_results(self):
        desk = Desk(Clause("a"))
        self.assertEqual(desk.put(Clause("a", "b")), 2)
        self.assertEqual(desk.put(Clause("b")), 3)
        self.assertEqual(str(desk.drop(3)), "b")
        self.assertEqual(desk.put(Clause("c")), 4)
        self.assertEqual(str(desk.exchange(2, Clause("-a"))), "a | b")
        self.assertEqual(str(desk[2]), "-a")
        desk[2] = Clause("-b")
        self.assertEqual(str(desk[2]), "-b")
        self.assertEqual(state(desk.book)[0], [(1, "a"), (2, "-b"), (4, "c")])
        self.assertEqual((desk.book.next_number, desk.history), (5, 6))

    def test_no_clause(self):
        for strict in (False, True):
            desk = Desk(Clause("a"), Clause("b"), strict=strict)
            desk.drop(1)
            for number in (0, 1, 3, -1, 1000):
                self.untouched(desk, NoClause, desk.drop, number, number=number)
                self.untouched(desk, NoClause, desk.exchange, number, Clause(), number=number)
                self.untouched(desk, NoClause, lambda: desk[number], number=number)
                self.untouched(desk, NoClause, desk.__setitem__, number, Clause("-a"), number=number)

    def test_too_many(self):
        for strict in (False, True):
            desk = Desk(*[Clause(name) for name in TWELVE] * 2, strict=strict)
            self.untouched(desk, TooMany, desk.put, Clause("z"), limit=24)
            desk.drop(1)
            self.untouched(desk, TooMany, desk.put, Clause("z"), limit=12)
            self.untouched(desk, TooMany, desk.exchange, 2, Clause("b", "z"), limit=12)
            self.untouched(desk, TooMany, desk.__setitem__, 2, Clause("y", "z"), limit=12)
            self.assertEqual(desk.put(Clause("b")), 25)

    def test_the_last_number(self):
        desk = Desk(Clause("a"))
        for _ in range(999 - 1):
            number = desk.put(Clause("b"))
            desk.drop(number)
        self.assertEqual(desk.book.next_number, 1000)
        self.untouched(desk, TooMany, desk.put, Clause("b"), limit=999)
        desk.undo()
        desk.undo()
        self.assertEqual(desk.put(Clause("b")), 999)

    def test_strict_desks_refuse_books_that_are_not_plain(self):
        desk = Desk(*SQUARE[:3], Clause("c"), strict=True)
        book = Book(*SQUARE[:3], Clause("c"), SQUARE[3])
        self.not_plain(desk, book, desk.put, SQUARE[3])
        book = Book(*SQUARE[:3], SQUARE[3])
        self.not_plain(desk, book, desk.exchange, 4, SQUARE[3])
        self.not_plain(desk, book, desk.__setitem__, 4, SQUARE[3])
        desk.strict = False
        self.assertEqual(desk.put(SQUARE[3]), 5)
        self.assertIsNone(desk.current)
        self.assertEqual(str(desk.exchange(5, Clause("a"))), "-a | -b")

    def test_the_nearest_turning(self):
        desk = Desk(Clause("a", "b"), Clause("c", "d"))
        self.assertEqual(desk.current.turned, ("b", "d"))
        desk.turn("-a", "-c")
        self.assertEqual((desk.current.turned, desk.changed), (("a", "b", "c", "d"), ("a", "c")))
        desk.put(Clause("-a", "-d"))
        self.assertEqual((desk.current.turned, desk.changed), (("b", "c", "d"), ("a",)))
        desk.put(Clause("-b", "-c"))
        self.assertEqual((desk.current.turned, desk.changed), (("b", "d"), ("c",)))

    def test_names_that_leave_and_enter(self):
        desk = Desk(Clause("a", "b"), Clause("c", "d"))
        desk.turn("-a", "-c")
        desk.drop(1)
        self.assertEqual((desk.current.turned, desk.changed), (("c", "d"), ("a", "b")))
        desk.put(Clause("a", "b"))
        self.assertEqual((desk.current.turned, desk.changed), (("b", "c", "d"), ("b",)))

    def test_from_no_turning_to_the_first_one(self):
        desk = Desk(*SQUARE, Clause("c", "d"))
        self.assertIsNone(desk.current)
        desk.drop(4)
        self.assertEqual((desk.current.turned, desk.changed), (("a", "b", "d"), ("a", "b", "d")))
        desk.turn("-c")
        desk.put(SQUARE[3])
        self.assertEqual((desk.current, desk.changed), (None, ("a", "b", "c", "d")))
        desk.drop(6)
        self.assertEqual((desk.current.turned, desk.changed), (("a", "b", "d"), ("a", "b", "d")))


class FactsTest(DeskCase):
    def test_facts_in_order(self):
        desk = Desk(Clause("a", "b"))
        for literal in ("c", "-a", "c", "z", "b1"):
            self.assertIsNone(desk.fact(literal))
        self.assertEqual((desk.kept_facts, desk.history), (("-a", "b1", "c", "z"), 5))
        self.assertIsNone(desk.unfact("c"))
        self.assertEqual((desk.kept_facts, desk.current.turned, desk.changed), (("-a", "b1", "z"), ("b",), ()))

    def test_bad_literals(self):
        desk = Desk()
        for name in TWELVE:
            desk.fact(name)
        for text in NO_LITERALS:
            self.untouched(desk, BadLiteral, desk.fact, text, text=text)
            self.untouched(desk, BadLiteral, desk.unfact, text, text=text)
        self.untouched(desk, BothSigns, desk.fact, "-l", name="l")
        self.untouched(desk, TooMany, desk.fact, "m", limit=12)
        self.untouched(desk, NoFact, desk.unfact, "-l", literal="-l")
        self.untouched(desk, NoFact, desk.unfact, "m", literal="m")
        desk.fact("l")
        self.assertEqual((desk.kept_facts, desk.history), (tuple(TWELVE), 13))
        desk.unfact("a")
        desk.fact("-m")
        self.assertEqual(desk.kept_facts, (*TWELVE[1:], "-m"))

    def test_both_signs(self):
        desk = Desk()
        desk.fact("-a")
        self.untouched(desk, BothSigns, desk.fact, "a", name="a")
        desk.unfact("-a")
        desk.fact("a")
        self.assertEqual(desk.kept_facts, ("a",))


class TurnTest(DeskCase):
    def test_moves(self):
        for book in drawn_books(74, 25, TWELVE[:4], 4, [1, 2, 2, 3]):
            rows = suiting(book)
            for row in rows[:4]:
                for literals in [(), *[(literal,) for literal in [*book.names, *["-" + name for name in book.names]]]]:
                    desk = Desk(*[book[number] for number in book])
                    desk.turn(*[name if name not in row else "-" + name for name in book.names])
                    self.assertEqual(desk.current.turned, row)
                    if any(all(says_yes(other, literal) for literal in literals) for other in rows):
                        self.assertIsNone(desk.turn(*literals))
                        self.assertEqual(desk.current.turned, moved_by_hand(book, row, literals))
                        self.assertEqual(desk.changed, tuple(sorted(set(row) ^ set(desk.current.turned))))
                    else:
                        self.untouched(desk, NoTurning, desk.turn, *literals)

    def test_errors_in_their_order(self):
        for desk in (Desk(*SQUARE[:2], Clause("-c")), Desk(*SQUARE, Clause("-c"))):
            for text in NO_LITERALS:
                self.untouched(desk, BadLiteral, desk.turn, "z", "b", "-b", text, "B", text=text)
            self.untouched(desk, NoName, desk.turn, "b", "-b", "z", "y", name="z")
            self.untouched(desk, NoName, desk.turn, "-y", "z", name="y")
            self.untouched(desk, NoTurning, desk.turn, "b", "-b")
        desk = Desk(*SQUARE)
        self.untouched(desk, NoTurning, desk.turn)
        self.untouched(desk, NoTurning, desk.turn, "a")
        desk = Desk(Clause())
        desk.turn()
        self.assertEqual((desk.current.turned, desk.history), ((), 1))


class EditTest(DeskCase):
    EDITS = [
        ("put", Clause("a", "b")), ("exchange", 1, Clause("a", "c")), ("fact", "z"), ("turn", "-a"), ("unfact", "z"),
        ("fact", "-y"), ("drop", 1), ("put", Clause("b", "c")), ("fact", "-y"), ("put", Clause("-b", "-c")),
        ("turn", "-b"), ("drop", 3),
    ]

    def test_all_kinds_of_edits(self):
        desk, other = Desk(Clause("c")), Desk(Clause("c"))
        self.assertIsNone(desk.edit(*self.EDITS))
        for word, *args in self.EDITS:
            getattr(other, word)(*args)
        self.assertEqual((desk.history, desk.changed), (1, ("a", "b")))
        self.assertEqual(other.history, 12)
        self.assertEqual(shown(desk)[:3], shown(other)[:3])
        self.assertEqual(state(desk.book)[0], [(2, "a | b"), (4, "-b | -c")])
        desk.undo()
        self.assertEqual(shown(desk)[:3], shown(Desk(Clause("c")))[:3])

    def test_the_number_of_edits(self):
        desk = Desk(Clause("a"))
        self.assertIsNone(desk.edit())
        self.assertEqual((desk.history, desk.changed), (1, ()))
        desk.edit(*[("put", Clause("a"))] * 12)
        self.assertEqual((desk.history, len(desk.book)), (2, 13))
        self.untouched(desk, TooMany, desk.edit, *[("put", Clause("a"))] * 13, limit=12)
        self.untouched(desk, TooMany, desk.edit, *[("unfact", "?")] * 13, limit=12)
        self.untouched(desk, TooMany, desk.supposing, *[("put", Clause("a"))] * 13, limit=12)

    def test_refused_edits(self):
        refused = [
            (("put", Clause("m", "n")), TooMany, {"limit": 12}),
            (("drop", 99), NoClause, {"number": 99}),
            (("exchange", 99, Clause()), NoClause, {"number": 99}),
            (("exchange", 2, Clause("m", "n", "o")), TooMany, {"limit": 12}),
            (("fact", "-"), BadLiteral, {"text": "-"}),
            (("fact", "-x"), BothSigns, {"name": "x"}),
            (("unfact", "y"), NoFact, {"literal": "y"}),
            (("unfact", "Y"), BadLiteral, {"text": "Y"}),
            (("turn", "z"), NoName, {"name": "z"}),
            (("turn", ""), BadLiteral, {"text": ""}),
        ]
        for strict in (False, True):
            desk = Desk(*[Clause(name) for name in TWELVE[:-1]], strict=strict)
            desk.fact("x")
            desk.drop(9)
            desk.undo()
            good = [("put", Clause("a", "b")), ("fact", "-y"), ("turn", "-b"), ("exchange", 1, Clause("b"))]
            for edit, error, kept in refused:
                for at in range(len(good) + 1):
                    edits = [*good[:at], edit, *good[at:], ("unfact", "?")]
                    for call in (desk.edit, desk.supposing):
                        found = self.untouched(desk, EditRefused, call, *edits, at=at)
                        self.assertIs(type(found.__cause__), error)
                        self.assertEqual(vars(found.__cause__), kept)

    def test_books_between_that_are_not_plain(self):
        edits = [("put", SQUARE[3]), ("drop", 1)]
        desk = Desk(*SQUARE[:3])
        desk.edit(*edits)
        self.assertEqual(desk.current.turned, suiting(Book(*SQUARE[1:]))[0])
        strict = Desk(*SQUARE[:3], strict=True)
        for call in (strict.edit, strict.supposing):
            found = self.untouched(strict, EditRefused, call, *edits, at=0)
            self.assertIs(type(found.__cause__), NotPlain)
            self.assertTrue(found.__cause__.ring.bars(Book(*SQUARE)))
        strict.edit(*edits[::-1])
        self.assertEqual(state(strict.book)[0], state(desk.book)[0])
        found = self.untouched(desk, EditRefused, desk.edit, ("put", SQUARE[0]), ("turn", "a"), at=1)
        self.assertIs(type(found.__cause__), NoTurning)

    def test_supposing(self):
        desk = Desk(*SQUARE[:3])
        desk.put(Clause("c"))
        desk.undo()
        before = shown(desk)
        self.assertEqual(told(desk.supposing()), told(standing(desk.book)))
        self.assertEqual(told(desk.supposing(("put", SQUARE[3]))), told(standing(Book(*SQUARE))))
        self.assertEqual(told(desk.supposing(("drop", 1), ("fact", "a"))), told(standing(Book(*SQUARE[1:3]))))
        self.assertEqual(shown(desk), before)


class HistoryTest(DeskCase):
    def steps(self, desk):
        """Steps of all kinds, some of which change nothing."""
        return [
            lambda: desk.put(Clause("a", "b")), lambda: desk.fact("z"), lambda: desk.turn("-a"),
            lambda: desk.exchange(1, Clause("b", "c")), lambda: desk.fact("z"), lambda: desk.put(Clause("-b", "-a")),
            lambda: desk.edit(("drop", 2), ("put", Clause("a", "c"))), lambda: desk.unfact("z"), lambda: desk.edit(),
            lambda: desk.turn(), lambda: desk.__setitem__(3, Clause("-c")), lambda: desk.drop(1),
        ]

    def test_back_and_ahead_through_all_kinds_of_steps(self):
        desk = Desk()
        seen = [shown(desk)[:3]]
        for step in self.steps(desk):
            step()
            seen.append(shown(desk)[:3])
            self.assertEqual((desk.history, desk.ahead), (len(seen) - 1, 0))
        many = len(seen) - 1
        for at in range(many, 0, -1):
            self.assertIsNone(desk.undo())
            self.assertEqual(shown(desk)[:3], seen[at - 1])
            self.assertEqual((desk.history, desk.ahead), (at - 1, many - at + 1))
            self.assertEqual(desk.changed, self.apart(seen[at][2], seen[at - 1][2]))
        self.untouched(desk, NothingBack, desk.undo)
        for at in range(1, many + 1):
            self.assertIsNone(desk.redo())
            self.assertEqual(shown(desk)[:3], seen[at])
            self.assertEqual((desk.history, desk.ahead), (at, many - at))
            self.assertEqual(desk.changed, self.apart(seen[at][2], seen[at - 1][2]))
        self.untouched(desk, NothingAhead, desk.redo)

    def apart(self, one, other):
        return tuple(sorted(set(one or ()) ^ set(other or ())))

    def test_only_the_last_forty_steps(self):
        desk = Desk()
        for at in range(45):
            desk.put(Clause("a"))
            desk.drop(at + 1)
        self.assertEqual(desk.history, 40)
        for at in range(40):
            desk.undo()
        self.assertEqual((desk.history, desk.ahead, desk.book.next_number), (0, 40, 26))
        self.untouched(desk, NothingBack, desk.undo)
        for at in range(40):
            desk.redo()
        self.assertEqual((desk.history, desk.ahead, desk.book.next_number), (40, 0, 46))
        desk.put(Clause("a"))
        self.assertEqual(desk.history, 40)

    def test_a_new_desk_has_nothing_back_and_nothing_ahead(self):
        for desk in (Desk(), Desk(*SQUARE), Desk(Clause("a"), strict=True)):
            self.untouched(desk, NothingBack, desk.undo)
            self.untouched(desk, NothingAhead, desk.redo)

    def test_a_step_forgets_what_is_ahead(self):
        for at in range(12):
            desk = Desk()
            for step in self.steps(desk):
                step()
            desk.undo()
            desk.undo()
            for _ in range(at):
                desk.undo() if desk.history > 3 else desk.redo()
            self.untouched(desk, NoClause, desk.drop, 77, number=77)
            self.assertGreater(desk.ahead, 0)
            before = desk.history
            [
                lambda: desk.put(Clause("a")), lambda: desk.fact("x"), lambda: desk.edit(), lambda: desk.turn(),
                lambda: desk.drop(list(desk.book)[0]), lambda: desk.__setitem__(list(desk.book)[0], Clause("a")),
                lambda: desk.edit(("fact", "y"), ("unfact", "y")),
            ][at % 7]()
            self.assertEqual((desk.ahead, desk.history), (0, before + 1))
            self.untouched(desk, NothingAhead, desk.redo)

    def test_the_same_step_again_after_several_undo(self):
        desk = Desk()
        for literal in ("a", "b", "c"):
            desk.fact(literal)
        for _ in range(2):
            desk.undo()
        desk.redo()
        self.assertEqual((desk.kept_facts, desk.history, desk.ahead), (("a", "b"), 2, 1))
        desk.undo()
        desk.undo()
        self.assertEqual((desk.kept_facts, desk.history, desk.ahead), ((), 0, 3))
        for expected in (("a",), ("a", "b"), ("a", "b", "c")):
            desk.redo()
            self.assertEqual(desk.kept_facts, expected)

    def test_changed(self):
        desk = Desk(Clause("a", "b"))
        self.assertEqual(desk.changed, ())
        desk.turn("-a")
        self.assertEqual(desk.changed, ("a",))
        desk.undo()
        self.assertEqual((desk.changed, desk.current.turned), (("a",), ("b",)))
        desk.fact("a")
        self.assertEqual(desk.changed, ())
        for clause in SQUARE[1:]:
            desk.put(clause)
        self.assertEqual((desk.current, desk.changed), (None, ("a", "b")))
        desk.undo()
        self.assertEqual((desk.current.turned, desk.changed), (("a", "b"), ("a", "b")))
        desk.redo()
        self.assertEqual((desk.current, desk.changed), (None, ("a", "b")))


class StrictTest(DeskCase):
    def test_assigning_forgets_the_history_alone(self):
        for flag in (True, False):
            for way in (lambda desk: setattr(desk, "strict", flag), lambda desk: desk.be_strict(flag)):
                for start in (True, False):
                    desk = Desk(Clause("a", "b"), strict=start)
                    desk.fact("z")
                    desk.turn("-a")
                    desk.put(Clause("c"))
                    desk.undo()
                    desk.undo()
                    before = shown(desk)
                    self.assertEqual(before[3:6], (1, 2, ("a",)))
                    self.assertIsNone(way(desk))
                    self.assertEqual(shown(desk), (*before[:3], 0, 0, ("a",), flag))
                    self.untouched(desk, NothingBack, desk.undo)
                    self.untouched(desk, NothingAhead, desk.redo)

    def test_only_plain_books_may_be_strict(self):
        for book in [Book(*SQUARE), *drawn_halved_books(77, 10)]:
            desk = Desk(*[book[number] for number in book])
            desk.fact("z")
            desk.fact("y")
            desk.undo()
            self.not_plain(desk, desk.book, desk.be_strict, True)
            self.not_plain(desk, desk.book, lambda: setattr(desk, "strict", True))
            desk.strict = False
            self.assertEqual((desk.history, desk.ahead, desk.strict), (0, 0, False))

    def test_reading(self):
        self.assertIs(Desk().strict, False)
        desk = Desk(strict=True)
        self.assertIs(desk.strict, True)
        desk.be_strict(False)
        self.assertIs(desk.strict, False)


class AnswersTest(DeskCase):
    def test_the_book_is_a_copy(self):
        desk = Desk(Clause("a"))
        book = desk.book
        book.put(Clause("b"))
        book.drop(1)
        self.assertEqual((state(desk.book)[0], desk.put(Clause("c"))), ([(1, "a")], 2))
        self.assertIs(type(desk.kept_facts), tuple)
        self.assertIs(type(desk.changed), tuple)
        self.assertIs(type(desk.current), Turning)

    def test_errors_of_the_facts_for_all_together(self):
        desk = Desk(Clause("a", "b"))
        for literal in ("c", "-e", "x"):
            desk.fact(literal)
        for text in NO_LITERALS:
            self.untouched(desk, BadLiteral, desk.answer, "e", text, "B", *THIRTEEN, text=text)
        self.untouched(desk, BothSigns, desk.answer, "-x", "e", name="e")
        self.untouched(desk, BothSigns, desk.answer, "-x", "b", "-b", name="b")
        self.untouched(desk, TooMany, desk.answer, *["y" + name for name in TWELVE[:10]], limit=12)
        before = shown(desk)
        found = desk.answer("c", *["y" + name for name in TWELVE[:9]], "x")
        self.assertEqual(len(found.model), 14)
        self.assertEqual(shown(desk), before)

    def test_known_answers(self):
        desk = Desk(Clause("a", "b"), Clause("-b", "c"))
        desk.fact("-a")
        self.assertEqual(desk.answer().model, ("-a", "b", "c"))
        self.assertEqual(desk.answer("-c").paper.refutes(desk.book, ["-a", "-c"]), True)
        self.assertEqual(desk.answer("-a", "z").model, ("-a", "b", "c", "z"))
        self.assertEqual(told(desk.stand()), told(standing(desk.book)))

    def test_a_desk_is_not_iterated_over(self):
        with self.assertRaises(TypeError):
            list(Desk(Clause("a")))

    def test_all_turnings_of_twelve_names(self):
        desk = Desk(*[Clause(one, "-" + other) for one, other in zip(TWELVE, TWELVE[1:])])
        desk.turn(*["-" + name for name in TWELVE])
        self.assertEqual(desk.current.turned, tuple(TWELVE))
        desk.put(Clause("-a", "-l"))
        self.assertEqual(desk.current.turned, tuple(TWELVE[:-1]))
        self.assertEqual(len(subsets(desk.book.names)), 4096)
