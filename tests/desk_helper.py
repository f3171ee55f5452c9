"""What the tests of desks share."""

from helper import Case, says_yes, state, suiting
from renamedhorn.errors import HornError, NotPlain
from renamedhorn.rings import Ring, first_ring


def shown(desk):
    """All that a desk shows."""
    turning = desk.current
    return (
        state(desk.book), desk.kept_facts, None if turning is None else turning.turned, desk.history, desk.ahead,
        desk.changed, desk.strict,
    )


def told(found):
    """All that a standing tells, as far as it is one answer alone."""
    ring = None if found.ring is None else found.ring.name
    weights = None if found.weights is None else [(name, str(found.weights[name])) for name in found.weights]
    turning = None if found.turning is None else found.turning.turned
    return found.kind, found.rings, list(found.sides.walk()), turning, ring, weights, found.crowded


def moved_by_hand(book, turned, literals):
    """The turned names nearest to the ones before among those that say yes to all literals (point 41)."""
    rows = [row for row in suiting(book) if all(says_yes(row, literal) for literal in literals)]
    apart = [set(row) ^ set(turned) for row in rows]
    return [row for row, part in zip(rows, apart) if all(part <= other for other in apart)][0]


class DeskCase(Case):
    def same_refusal(self, error, expected, book):
        """Assert that an error is the expected one; of rings any one may be told that bars the book."""
        self.assertIs(type(error), type(expected))
        if isinstance(error, NotPlain):
            self.assertIs(type(error.ring), Ring)
            self.assertEqual(error.ring.name, expected.ring.name)
            self.assertTrue(error.ring.bars(book))
        elif error is not None:
            self.assertEqual(vars(error), vars(expected))

    def outcome(self, call, *args):
        """What a call returns, and the error that it raises."""
        try:
            return call(*args), None
        except HornError as error:
            return None, error

    def untouched(self, desk, error, call, *args, **kept):
        """Assert that a call is refused in just this way and changes nothing of a desk."""
        before = shown(desk)
        found = self.refused(error, call, *args, **kept)
        self.assertEqual(shown(desk), before)
        return found

    def not_plain(self, desk, book, call, *args):
        """Assert that a call is refused as this book is not plain, and changes nothing."""
        before = shown(desk)
        with self.assertRaises(NotPlain) as caught:
            call(*args)
        self.assertIs(type(caught.exception.ring), Ring)
        self.assertEqual(caught.exception.ring.name, first_ring(book).name)
        self.assertTrue(caught.exception.ring.bars(book))
        self.assertEqual(shown(desk), before)
