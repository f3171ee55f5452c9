"""Desks: a book with facts and a current turning that is changed step by step."""

from renamedhorn.books import Book
from renamedhorn.errors import EditRefused, HornError, NoFact, NothingAhead, NothingBack, NotPlain, TooMany
from renamedhorn.following import checked_facts
from renamedhorn.literals import check_literal
from renamedhorn.products import all_turnings, nearest
from renamedhorn.rings import first_ring
from renamedhorn.settling import settle
from renamedhorn.standings import standing
from renamedhorn.turnings import Turning, names_apart

MOST_EDITS = 12
MOST_BACK = 40

# What lies on a desk is a sheet: a book, the facts, the current turning and the flag for plain books
# alone. A sheet and its book are never changed, so that steps can be taken back and made again.


def _check_plain(book):
    """Raise NotPlain if a book is not plain."""
    ring = first_ring(book)
    if ring is not None:
        raise NotPlain(ring)


def _turning_for(book, turning):
    """The current turning once a book is the new one; the turning was the current one before."""
    turnings = all_turnings(book)
    if turnings.many == 0:
        return None
    if turning is None:
        return turnings[0]
    return nearest(turnings, turning)


def _with_book(sheet, book):
    """The sheet with another book."""
    _, facts, turning, strict = sheet
    if strict:
        _check_plain(book)
    return book, facts, _turning_for(book, turning), strict


def _put(sheet, clause):
    """The sheet with one more clause in its book."""
    book = sheet[0].copy()
    book.put(clause)
    return _with_book(sheet, book)


def _drop(sheet, number):
    """The sheet without a clause of its book."""
    book = sheet[0].copy()
    book.drop(number)
    return _with_book(sheet, book)


def _exchange(sheet, number, clause):
    """The sheet with another clause at a number of its book."""
    book = sheet[0].copy()
    book[number] = clause
    return _with_book(sheet, book)


def _fact(sheet, literal):
    """The sheet with one more fact."""
    book, facts, turning, strict = sheet
    return book, checked_facts(facts + (literal,)), turning, strict


def _unfact(sheet, literal):
    """The sheet without one of its facts."""
    book, facts, turning, strict = sheet
    check_literal(literal)
    if literal not in facts:
        raise NoFact(literal)
    return book, tuple([fact for fact in facts if fact != literal]), turning, strict


def _turn(sheet, *literals):
    """The sheet with the nearest turning that says yes to all literals."""
    book, facts, turning, strict = sheet
    # A book that is not plain has no turnings, so from any turning there is none to move to.
    start = Turning() if turning is None else turning
    return book, facts, all_turnings(book).moved(start, *literals), strict


EDITS = {"put": _put, "drop": _drop, "exchange": _exchange, "fact": _fact, "unfact": _unfact, "turn": _turn}


def _edited(sheet, edit, at):
    """The sheet after one of several edits."""
    action = EDITS[edit[0]]
    parts = edit[1:]
    try:
        return action(sheet, *parts)
    except HornError as error:
        raise EditRefused(at) from error


def _all_edited(sheet, edits):
    """The sheet after several edits."""
    if len(edits) > MOST_EDITS:
        raise TooMany(MOST_EDITS)
    for at, edit in enumerate(edits):
        sheet = _edited(sheet, edit, at)
    return sheet


def _names_changed(before, after):
    """The names that exactly one of two current turnings turns."""
    one = Turning() if before is None else before
    other = Turning() if after is None else after
    return tuple(names_apart(one, other))


class Desk:
    """A book with facts and a current turning, of which the last steps can be taken back."""

    def __init__(self, *clauses, strict=False):
        book = Book(*clauses)
        self._sheet = _with_book((book, (), None, strict), book)
        self._back = []
        self._onward = []
        self._changed = ()

    def _show(self, sheet):
        """Lay another sheet on the desk."""
        self._changed = _names_changed(self._sheet[2], sheet[2])
        self._sheet = sheet

    def _step(self, sheet):
        """Lay another sheet on the desk as a new step."""
        self._back = (self._back + [self._sheet])[-MOST_BACK:]
        self._onward = []
        self._show(sheet)

    @property
    def book(self):
        """A copy of the book."""
        return self._sheet[0].copy()

    @property
    def kept_facts(self):
        """The facts, in literal order."""
        return self._sheet[1]

    @property
    def current(self):
        """The current turning, or None if the book is not plain."""
        return self._sheet[2]

    @property
    def changed(self):
        """The names whose turning the last step or the last undo changed."""
        return self._changed

    @property
    def history(self):
        """The number of steps that can be taken back."""
        return len(self._back)

    @property
    def ahead(self):
        """The number of steps that can be made again."""
        return len(self._onward)

    @property
    def strict(self):
        """Tell whether the book has to be plain."""
        return self._sheet[3]

    @strict.setter
    def strict(self, value):
        book, facts, turning, _ = self._sheet
        if value:
            _check_plain(book)
        self._sheet = (book, facts, turning, value)
        self._back = []
        self._onward = []

    def be_strict(self, flag):
        """Tell whether the book has to be plain from now on."""
        self.strict = flag

    def put(self, clause):
        """Add a clause to the book and return its number."""
        number = self._sheet[0].next_number
        self._step(_put(self._sheet, clause))
        return number

    def drop(self, number):
        """Remove the clause with a number and return it."""
        clause = self[number]
        self._step(_drop(self._sheet, number))
        return clause

    def exchange(self, number, clause):
        """Replace the clause with a number and return the replaced one."""
        before = self[number]
        self._step(_exchange(self._sheet, number, clause))
        return before

    def fact(self, literal):
        """Add a fact."""
        self._step(_fact(self._sheet, literal))

    def unfact(self, literal):
        """Take a fact away."""
        self._step(_unfact(self._sheet, literal))

    def turn(self, *literals):
        """Move the current turning to the nearest one that says yes to all literals."""
        self._step(_turn(self._sheet, *literals))

    def edit(self, *edits):
        """Make several edits as one step, or none of them if one is refused."""
        self._step(_all_edited(self._sheet, edits))

    def supposing(self, *edits):
        """The standing that the book would have after several edits."""
        return standing(_all_edited(self._sheet, edits)[0])

    def undo(self):
        """Take the last step back."""
        if not self._back:
            raise NothingBack()
        before = self._back[-1]
        self._back = self._back[:-1]
        self._onward = self._onward + [self._sheet]
        self._show(before)

    def redo(self):
        """Make the step again that was taken back last."""
        if not self._onward:
            raise NothingAhead()
        after = self._onward[-1]
        self._onward = self._onward[:-1]
        self._back = self._back + [self._sheet]
        self._show(after)

    def answer(self, *literals):
        """The answer for the book with all facts and some more."""
        return settle(self._sheet[0], self._sheet[1] + literals)

    def stand(self):
        """The standing of the book."""
        return standing(self._sheet[0])

    def __iter__(self):
        raise TypeError("a desk is not iterated over")

    def __getitem__(self, at):
        return self._sheet[0][at]

    def __setitem__(self, at, worth):
        self.exchange(at, worth)


def desk_of(book, facts, turning, strict):
    """A desk without history on which all of this lies; the book is not changed elsewhere."""
    desk = Desk()
    desk._sheet = (book, facts, turning, strict)
    return desk
