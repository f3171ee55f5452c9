"""Weights: shares from 0 to 1 of names, and what literals, clauses and books weigh by them."""

from renamedhorn.clauses import Clause
from renamedhorn.errors import BadWeight, HalfLeft, NoName, TooMany
from renamedhorn.literals import check_name, few_names, is_positive, name_of
from renamedhorn.shares import Share
from renamedhorn.turnings import Turning


def _as_share(worth):
    """A share as it is, an integer as a share."""
    if isinstance(worth, Share):
        return worth
    return Share(worth)


def _with(shares, name, worth):
    """The shares of names in ascending order, with one of them set."""
    check_name(name)
    share = _as_share(worth)
    if not 0 <= share <= 1:
        raise BadWeight(share)
    if name not in shares and len(shares) >= Weights.LIMIT:
        raise TooMany(Weights.LIMIT)
    changed = {**shares, name: share}
    return {word: changed[word] for word in sorted(set(changed))}


def _share_at(shares, name):
    """The share of a name that must have one."""
    if name not in shares:
        raise NoName(name)
    return shares[name]


def _literal_weight(shares, literal):
    """The weight of a literal."""
    share = _share_at(shares, name_of(literal))
    if is_positive(literal):
        return share
    return 1 - share


def _clause_weight(shares, clause):
    """The sum of the weights of the literals of a clause."""
    total = Share(0)
    for literal in clause.literals:
        total = total + _literal_weight(shares, literal)
    return total


def _rounded(share):
    """The nearer one of 0 and 1, or 1/2 if both are as near."""
    half = Share(1, 2)
    if share == half:
        return half
    if share < half:
        return Share(0)
    return Share(1)


def _weights_of(shares):
    """The weights that give these shares to names in ascending order."""
    weights = Weights()
    # Not as keywords: `self` is a name like any other.
    weights._shares = shares
    return weights


class Weights:
    """Shares from 0 to 1 of some names."""

    LIMIT = 12

    # Weights never change their dict but take a new one in which the names are in order again.

    def __init__(self, **shares):
        self._shares = {}
        for name, worth in shares.items():
            self._shares = _with(self._shares, name, worth)

    @staticmethod
    def of(turning, names):
        """The weights that give 0 to those of the names that are turned, and 1 to the others."""
        ordered = few_names(names, Weights.LIMIT)
        return _weights_of({name: Share(int(name not in turning.turned)) for name in ordered})

    def most(self, book):
        """The greatest weight of a clause of a book, or 0."""
        greatest = Share(0)
        for number in book:
            weight = _clause_weight(self._shares, book[number])
            if weight > greatest:
                greatest = weight
        return greatest

    def fits(self, book):
        """Tell whether each clause of a book weighs at most 1."""
        return self.most(book) <= 1

    def rounded(self):
        """The weights of the same names with each share rounded, 1/2 to itself."""
        return _weights_of({name: _rounded(share) for name, share in self._shares.items()})

    def halves(self):
        """The names whose share is 1/2, in ascending order."""
        return [name for name, share in self._shares.items() if share == Share(1, 2)]

    def as_turning(self):
        """The turning of the names whose share is 0, where all shares are 0 or 1."""
        for name, share in self._shares.items():
            if share != 0 and share != 1:
                raise HalfLeft(name)
        turned = [name for name, share in self._shares.items() if share == 0]
        return Turning(*turned)

    def __call__(self, part):
        if isinstance(part, Clause):
            return _clause_weight(self._shares, part)
        return _literal_weight(self._shares, part)

    def __iter__(self):
        return iter(self._shares)

    def __len__(self):
        return len(self._shares)

    def __contains__(self, x):
        # What a dict cannot look up is not in it.
        return isinstance(x, str) and x in self._shares

    def __getitem__(self, at):
        check_name(at)
        return _share_at(self._shares, at)

    def __setitem__(self, at, worth):
        self._shares = _with(self._shares, at, worth)

    def __eq__(self, other):
        return isinstance(other, Weights) and self._shares == other._shares
