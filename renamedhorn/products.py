"""Products: sets of turnings of some names that hold the median of each three that they hold."""

from renamedhorn.codes import (
    all_codes, apart_parts, bits_of, by_needs, closure, code_of, common_bits, having, recoded, turned_in,
)
from renamedhorn.errors import NoPlace, NoTurning, SharedName
from renamedhorn.literals import check_known, check_name, check_same, few_names, name_of, names_in_order
from renamedhorn.needs import all_needs
from renamedhorn.turnings import Turning


def _turning_of(names, code):
    """The turning for which a code over names stands."""
    turned = turned_in(names, code)
    return Turning(*turned)


def _holds(product, turning):
    """Tell whether a product holds a turning."""
    if not all([name in product._names for name in turning.turned]):
        return False
    return code_of(product._names, turning.turned) in product._places


def _code_held(product, turning):
    """The code of a turning, which the product must hold."""
    if not _holds(product, turning):
        raise NoTurning()
    return code_of(product._names, turning.turned)


def _codes_saying(product, literals):
    """The codes of the turnings of a product that say yes to all literals."""
    check_known(product._names, [name_of(literal) for literal in literals])
    return having(product._codes, bits_of(product._names, literals))


def _met(one, other):
    """The product over the names of both of what is in both when it is cut down."""
    names = few_names(one._names + other._names, Product.LIMIT)
    every = all_codes(names)
    firsts = recoded(names, every, one._names)
    seconds = recoded(names, every, other._names)
    return Product(names, [
        code
        for code, first, second in zip(every, firsts, seconds)
        if first in one._places and second in other._places
    ])


class Product:
    """A set of turnings of some names, closed under medians; it never changes."""

    LIMIT = 12

    def __init__(self, names, codes):
        self._names = tuple(names)
        self._codes = tuple(codes)
        self._places = {code: place for place, code in enumerate(self._codes)}

    @classmethod
    def free(cls, *names):
        """The product that holds all turnings of the names."""
        ordered = few_names(names, Product.LIMIT)
        return cls(ordered, all_codes(ordered))

    @classmethod
    def hull(cls, names, turnings):
        """The least product over the names that holds the turnings."""
        ordered = few_names(names, Product.LIMIT)
        for turning in turnings:
            check_known(ordered, turning.turned)
        return cls(ordered, closure(ordered, [code_of(ordered, turning.turned) for turning in turnings]))

    @property
    def names(self):
        """The names, in ascending order."""
        return self._names

    @property
    def many(self):
        """The number of turnings."""
        return len(self._codes)

    def walk(self):
        """Yield the turnings, in ascending order."""
        for code in self._codes:
            yield _turning_of(self._names, code)

    def place_of(self, turning):
        """The number of turnings that come before one of the product."""
        return self._places[_code_held(self, turning)]

    def saying(self, *literals):
        """The product of those turnings that say yes to all literals."""
        return Product(self._names, _codes_saying(self, literals))

    def together(self, *literals):
        """Tell whether a turning says yes to all literals."""
        return len(_codes_saying(self, literals)) > 0

    def onto(self, *names):
        """The product over some of the names of the turnings cut down to these."""
        ordered = names_in_order(names)
        check_known(self._names, names)
        return Product(ordered, sorted(set(recoded(self._names, self._codes, ordered))))

    def side(self, name):
        """True if all turnings turn the name, False if none does, and None if only some do."""
        check_name(name)
        check_known(self._names, [name])
        if not self._codes:
            raise NoTurning()
        bit = code_of(self._names, [name])
        zeros, ones = common_bits(self._names, self._codes)
        if zeros & bit:
            return False
        if ones & bit:
            return True
        return None

    def factors(self):
        """The finest products whose product this one is, in ascending order of their first names."""
        if not self._codes:
            raise NoTurning()
        return [self.onto(*part) for part in apart_parts(self._names, self._codes)]

    def moved(self, turning, *literals):
        """The turning nearest to one of the product among those that say yes to all literals."""
        codes = _codes_saying(self, literals)
        code = _code_held(self, turning)
        if not codes:
            raise NoTurning()
        # The names at which all of these differ from the turning are just those to turn.
        zeros, ones = common_bits(self._names, codes)
        return _turning_of(self._names, (code & ~zeros) | ones)

    def __iter__(self):
        raise TypeError("a product is not iterated over")

    def __contains__(self, x):
        return isinstance(x, Turning) and _holds(self, x)

    def __bool__(self):
        return bool(self._codes)

    def __getitem__(self, at):
        if not 0 <= at < len(self._codes):
            raise NoPlace(at)
        return _turning_of(self._names, self._codes[at])

    def __eq__(self, other):
        return isinstance(other, Product) and self._names == other._names and self._codes == other._codes

    def __lt__(self, other):
        if not isinstance(other, Product):
            return NotImplemented
        return self <= other and len(self._codes) < len(other._codes)

    def __le__(self, other):
        if not isinstance(other, Product):
            return NotImplemented
        check_same(self._names, other._names)
        return all([code in other._places for code in self._codes])

    def __and__(self, other):
        return _met(self, other)

    def __or__(self, other):
        check_same(self._names, other._names)
        return Product(self._names, closure(self._names, self._codes + other._codes))

    def __mul__(self, other):
        for name in self._names:
            if name in other._names:
                raise SharedName(name)
        return _met(self, other)


def all_turnings(book):
    """The product over the names of a book of the turnings that suit it."""
    needed = {literal: [other for _, other in pairs] for literal, pairs in all_needs(book).items()}
    return Product(book.names, by_needs(book.names, needed))


def parted(one, other):
    """The first turning that exactly one of two products holds, or None."""
    check_same(one._names, other._names)
    ones = [code for code in one._codes if code not in other._places]
    others = [code for code in other._codes if code not in one._places]
    apart = sorted(set(ones + others))
    if not apart:
        return None
    return _turning_of(one._names, apart[0])


def nearest(product, turning):
    """The first of the turnings of a product that differ the least from a turning cut down to its names."""
    names = product._names
    code = code_of(names, turning.turned)
    best = None
    fewest = len(names) + 1
    for other in product._codes:
        many = len(turned_in(names, code ^ other))
        if many < fewest:
            best = other
            fewest = many
    return _turning_of(names, best)
