"""Points 70 to 79 and 92: drawn steps of a desk, beside a desk by the words of the document."""

import random

from desk_helper import DeskCase, moved_by_hand, shown, told
from helper import NO_LITERALS, TWELVE, drawn_clause, says_yes, state, suiting
from renamedhorn.books import Book
from renamedhorn.desks import Desk
from renamedhorn.errors import (
    BothSigns, EditRefused, HornError, NoFact, NoName, NothingAhead, NothingBack, NoTurning, NotPlain, TooMany,
)
from renamedhorn.literals import in_order, name_of, negated
from renamedhorn.rings import first_ring
from renamedhorn.settling import settle
from renamedhorn.standings import standing


def nearest_by_hand(book, turned):
    """The turned names of the current turning for a book once the ones before were turned (point 72)."""
    rows = suiting(book)
    if turned is None or not rows:
        return rows[0] if rows else None
    kept = {name for name in turned if name in book.names}
    return min(rows, key=lambda row: len(kept ^ set(row)))


class ByHand:
    """A desk by the words of the document, with turnings tried one by one."""

    def __init__(self, clauses, strict):
        self.sheet = (Book(*clauses), (), None)
        self.sheet = (*self.sheet[:2], nearest_by_hand(self.sheet[0], None))
        self.back, self.onward, self.changed, self.strict = [], [], (), strict

    def shown(self):
        book, facts, turned = self.sheet
        return state(book), facts, turned, len(self.back), len(self.onward), self.changed, self.strict

    def with_book(self, sheet, book):
        if self.strict and not suiting(book):
            raise NotPlain(first_ring(book))
        return book, sheet[1], nearest_by_hand(book, sheet[2])

    def after(self, sheet, word, *args):
        """What one edit makes of a sheet."""
        book, facts, turned = sheet
        if word in ("put", "drop", "exchange"):
            book = book.copy()
            if word == "exchange":
                book[args[0]] = args[1]
            else:
                getattr(book, word)(*args)
            return self.with_book(sheet, book)
        for literal in args:
            name_of(literal)
        if word == "fact":
            if negated(args[0]) in facts:
                raise BothSigns(name_of(args[0]))
            facts = tuple(in_order([*facts, args[0]]))
            if len(facts) > 12:
                raise TooMany(12)
        elif word == "unfact":
            if args[0] not in facts:
                raise NoFact(args[0])
            facts = tuple(fact for fact in facts if fact != args[0])
        else:
            for literal in args:
                if name_of(literal) not in book.names:
                    raise NoName(name_of(literal))
            if turned is None or not any(all(says_yes(row, part) for part in args) for row in suiting(book)):
                raise NoTurning()
            turned = moved_by_hand(book, turned, args)
        return book, facts, turned

    def after_all(self, edits):
        sheet = self.sheet
        if len(edits) > 12:
            raise TooMany(12)
        for at, edit in enumerate(edits):
            try:
                sheet = self.after(sheet, *edit)
            except HornError as error:
                raise EditRefused(at) from error
        return sheet

    def show(self, sheet):
        self.changed = tuple(sorted(set(self.sheet[2] or ()) ^ set(sheet[2] or ())))
        self.sheet = sheet

    def step(self, sheet):
        self.back = (self.back + [self.sheet])[-40:]
        self.onward = []
        self.show(sheet)

    def undo(self):
        if not self.back:
            raise NothingBack()
        self.onward.append(self.sheet)
        self.show(self.back.pop())

    def redo(self):
        if not self.onward:
            raise NothingAhead()
        self.back.append(self.sheet)
        self.show(self.onward.pop())

    def be_strict(self, flag):
        if flag and not suiting(self.sheet[0]):
            raise NotPlain(first_ring(self.sheet[0]))
        self.strict, self.back, self.onward = flag, [], []


def drawn_edit(draw, desk, names):
    """A drawn edit, most often one that a desk may well take."""
    word = draw.choice(["put", "put", "put", "put", "drop", "exchange", "fact", "unfact", "turn", "turn"])
    literal = draw.choice(["", "-"]) + draw.choice([*names, "z"])
    if draw.random() < 0.02:
        literal = draw.choice(NO_LITERALS)
    clause = drawn_clause(draw, names, [1, 2, 2, 3])
    number = draw.randint(1, desk.book.next_number)
    if word == "unfact" and desk.kept_facts and draw.random() < 0.8:
        literal = draw.choice(desk.kept_facts)
    return {"put": ("put", clause), "drop": ("drop", number), "exchange": ("exchange", number, clause)}.get(
        word, (word, literal)
    )


class WalkTest(DeskCase):
    """Drawn steps, beside a desk by hand."""

    def act(self, draw, desk, model, names):
        """Make one drawn step, and return its word and whether it was refused."""
        edit = drawn_edit(draw, desk, names)
        word = draw.choice(["step"] * 12 + ["undo"] * 5 + ["redo"] * 4 + ["edit"] * 4 + ["supposing", "strict", "strict"])
        args = ()
        if word == "step":
            word, *args = edit
            call = getattr(desk, word)
            expected, error = self.outcome(lambda: model.step(model.after(model.sheet, *edit)))
        elif word in ("edit", "supposing"):
            args = [drawn_edit(draw, desk, names) for _ in range(draw.choice([0, 1, 2, 3, 12, 13]))]
            call = getattr(desk, word)
            expected, error = self.outcome(model.after_all, args)
            if word == "edit" and error is None:
                model.step(expected)
        elif word == "strict":
            args = (draw.random() < 0.3,)
            call = desk.be_strict
            expected, error = self.outcome(model.be_strict, *args)
        else:
            call = getattr(desk, word)
            expected, error = self.outcome(getattr(model, word))
        book = self.book_refused(model, edit, word)
        found, refusal = self.outcome(call, *args)
        self.same_refusal(refusal, error, book)
        if error is not None and word in ("edit", "supposing") and error.__cause__ is not None:
            self.assertIs(type(refusal.__cause__), type(error.__cause__))
        if word == "supposing" and error is None:
            self.assertEqual(told(found), told(standing(expected[0])))
        if word in ("fact", "unfact", "turn", "edit", "undo", "redo", "strict"):
            self.assertIsNone(found)
        self.assertEqual(shown(desk), model.shown())
        return word, error is not None

    def book_refused(self, model, edit, word):
        """The book that a strict desk may refuse."""
        strict, model.strict = model.strict, False
        book, _ = self.outcome(model.after, model.sheet, *edit) if word in ("put", "drop", "exchange") else (None, None)
        model.strict = strict
        return model.sheet[0] if book is None else book[0]

    def test_beside_a_desk_by_hand(self):
        seen = []
        for seed in range(40):
            draw = random.Random(seed)
            names = TWELVE[:draw.choice([2, 3, 4, 5])]
            clauses = [drawn_clause(draw, names, [1, 2]) for _ in range(draw.randint(0, 3))]
            strict = bool(suiting(Book(*clauses))) and draw.random() < 0.4
            desk, model = Desk(*clauses, strict=strict), ByHand(clauses, strict)
            self.assertEqual(shown(desk), model.shown())
            for _ in range(60):
                seen.append(self.act(draw, desk, model, names))
            self.as_the_other_modules(desk)
        for word in ("put", "drop", "exchange", "fact", "unfact", "turn", "edit", "supposing", "undo", "redo", "strict"):
            self.assertGreater(seen.count((word, False)), 5, word)
            self.assertGreater(seen.count((word, True)), 2, word)

    def as_the_other_modules(self, desk):
        """Assert that a desk answers as the other modules do (point 79)."""
        before, book = shown(desk), desk.book
        self.assertEqual(told(desk.stand()), told(standing(book)))
        for literals in ((), ("a",), ("-b", "z9")):
            facts = [*desk.kept_facts, *literals]
            expected, error = self.outcome(settle, book, facts)
            found, refusal = self.outcome(desk.answer, *literals)
            self.same_refusal(refusal, error, book)
            if error is None:
                self.assertEqual(found.model, expected.model)
                self.assertEqual(found.paper is None, expected.paper is None)
                if found.paper is not None:
                    self.assertIs(found.paper.refutes(book, facts), True)
        self.assertEqual(shown(desk), before)
