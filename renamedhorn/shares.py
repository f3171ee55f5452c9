"""Shares: exact fractions in lowest terms."""

from math import gcd

from renamedhorn.errors import BadShare, ZeroBelow

MOST_DIGITS = 60


def _is_exact(value):
    """Tell whether a value is a share or an integer; True and False are not integers."""
    if isinstance(value, Share):
        return True
    return isinstance(value, int) and not isinstance(value, bool)


def _parts(value):
    """The top and the bottom of a share or an integer."""
    if isinstance(value, Share):
        return value.top, value.bottom
    return value, 1


def _gap(one, other):
    """An integer that has the sign of the difference of two shares or integers."""
    top, bottom = _parts(one)
    other_top, other_bottom = _parts(other)
    return top * other_bottom - other_top * bottom


def _quotient(one, other):
    """The exact quotient of two shares or integers."""
    top, bottom = _parts(one)
    other_top, other_bottom = _parts(other)
    return Share(top * other_bottom, bottom * other_top)


def _floor(share):
    """The greatest integer that is not above a share."""
    return share.top // share.bottom


def _reads_as_integer(text):
    """Tell whether a text is digits, not too many to be read, perhaps behind a minus sign."""
    digits = text.removeprefix("-")
    return digits.isdecimal() and len(digits) <= MOST_DIGITS


class Share:
    """An exact fraction, in lowest terms and with a positive bottom; it never changes."""

    def __init__(self, top, bottom=1):
        if bottom == 0:
            raise ZeroBelow()
        common = gcd(top, bottom)
        if bottom < 0:
            common = -common
        self.top = top // common
        self.bottom = bottom // common

    @staticmethod
    def read(text):
        """The share whose string is the text."""
        top, slash, bottom = text.partition("/")
        if not slash:
            bottom = "1"
        if not _reads_as_integer(top) or not _reads_as_integer(bottom):
            raise BadShare(text)
        if int(bottom) == 0:
            raise BadShare(text)
        # Signs, zeros and factors that no share writes show when the share is written again.
        share = Share(int(top), int(bottom))
        if str(share) != text:
            raise BadShare(text)
        return share

    def __add__(self, other):
        if not _is_exact(other):
            return NotImplemented
        top, bottom = _parts(other)
        return Share(self.top * bottom + top * self.bottom, self.bottom * bottom)

    def __radd__(self, other):
        return self + other

    def __sub__(self, other):
        if not _is_exact(other):
            return NotImplemented
        return self + -other

    def __rsub__(self, other):
        return -self + other

    def __mul__(self, other):
        if not _is_exact(other):
            return NotImplemented
        top, bottom = _parts(other)
        return Share(self.top * top, self.bottom * bottom)

    def __rmul__(self, other):
        return self * other

    def __floordiv__(self, other):
        if not _is_exact(other):
            return NotImplemented
        return _floor(_quotient(self, other))

    def __rfloordiv__(self, other):
        if not _is_exact(other):
            return NotImplemented
        return _floor(_quotient(other, self))

    def over(self, other):
        """The exact quotient of this share and a share or an integer."""
        return _quotient(self, other)

    def __neg__(self):
        return Share(-self.top, self.bottom)

    def __abs__(self):
        return Share(abs(self.top), self.bottom)

    def __bool__(self):
        return bool(self.top != 0)

    def __eq__(self, other):
        if not _is_exact(other):
            return False
        return _gap(self, other) == 0

    def __lt__(self, other):
        if not _is_exact(other):
            return NotImplemented
        return _gap(self, other) < 0

    def __le__(self, other):
        if not _is_exact(other):
            return NotImplemented
        return _gap(self, other) <= 0

    def __gt__(self, other):
        if not _is_exact(other):
            return NotImplemented
        return _gap(self, other) > 0

    def __ge__(self, other):
        if not _is_exact(other):
            return NotImplemented
        return _gap(self, other) >= 0

    def __str__(self):
        if self.bottom == 1:
            return str(self.top)
        return f"{self.top}/{self.bottom}"
