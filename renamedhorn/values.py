"""Values: the least greatest weight of the clauses of a book, and what shows it."""

from renamedhorn.errors import TooMany
from renamedhorn.literals import both_signs
from renamedhorn.mixtures import Mixture
from renamedhorn.shares import Share
from renamedhorn.weights import Weights

MOST_NAMES = 6
MOST_CLAUSES = 12


class GameValue:
    """The value of a book, with weights and a mixture that reach it."""

    def __init__(self, share, weights, mixture):
        self.share = share
        self.weights = weights
        self.mixture = mixture


class Table:
    """A linear program on its way through the simplex method, all in integers.

    Each row tells about one variable inside: `scale` times it is the last number of the row less
    the other numbers times the variables outside. The last row tells the same about the goal.
    """

    def __init__(self, rows, inside, outside, scale):
        self.rows = rows
        self.inside = inside
        self.outside = outside
        self.scale = scale


def _program(book):
    """The program that looks for the mixture with the greatest bound.

    Its variables are a part of the total for each clause and, for each name, what both loads reach;
    then one for each literal, by how much its load is above that, and one for what the parts leave
    of the total.
    """
    clauses = [book[number] for number in book]
    rows = []
    for literal in both_signs(book.names):
        loads = [-int(literal in clause) for clause in clauses]
        rows.append(loads + [int(literal in both_signs([name])) for name in book.names] + [0])
    rows.append([1 for _ in clauses] + [0 for _ in book.names] + [1])
    goal = [0 for _ in clauses] + [-1 for _ in book.names] + [0]
    width = len(goal) - 1
    inside = [width + at for at in range(len(rows))]
    return Table(rows + [goal], inside, list(range(width)), 1)


def _exchanged_row(row, pivot, column, scale):
    """A row after the variable of a column is told by the pivot row."""
    lead = pivot[column]
    factor = row[column]
    # The division leaves no rest, as all numbers are determinants of parts of the first table.
    changed = [(value * lead - factor * other) // scale for value, other in zip(row, pivot)]
    changed[column] = -factor
    return changed


def _exchanged(table, at, column):
    """The table after the variable of a row has gone outside and that of a column inside."""
    pivot = table.rows[at]
    rows = [_exchanged_row(row, pivot, column, table.scale) for row in table.rows]
    rows[at] = pivot[:column] + [table.scale] + pivot[column + 1:]
    inside = list(table.inside)
    outside = list(table.outside)
    inside[at] = table.outside[column]
    outside[column] = table.inside[at]
    return Table(rows, inside, outside, pivot[column])


def _entering(table):
    """The column of the lowest variable that makes the goal greater, or None."""
    better = [variable for variable, value in zip(table.outside, table.rows[-1]) if value < 0]
    if not better:
        return None
    return table.outside.index(min([int(variable) for variable in better]))


def _is_tighter(table, at, other, column):
    """Tell whether one row bounds a column more than another, or as much for a lower variable."""
    row = table.rows[at]
    other_row = table.rows[other]
    gap = row[-1] * other_row[column] - other_row[-1] * row[column]
    return gap < 0 or (gap == 0 and table.inside[at] < table.inside[other])


def _leaving(table, column):
    """The row that bounds a column most; there is one, as the parts have a total."""
    tightest = None
    for at in range(len(table.inside)):
        if table.rows[at][column] > 0:
            if tightest is None or _is_tighter(table, at, tightest, column):
                tightest = at
    return tightest


def _solved(table):
    """The table in which no exchange makes the goal greater."""
    # The lowest variables go first on both sides, so no table comes twice.
    column = _entering(table)
    while column is not None:
        table = _exchanged(table, _leaving(table, column), column)
        column = _entering(table)
    return table


def _mixture(table, numbers):
    """The mixture of what the clauses, the first variables, are in a solved table."""
    mixture = Mixture()
    for at, variable in enumerate(table.inside):
        if variable < len(numbers):
            mixture[numbers[variable]] = table.rows[at][-1]
    if mixture.total == 0:
        # The value is 0, so each clause alone has it as its bound.
        first = numbers[:1]
        return Mixture(*first)
    return mixture


def _price(table, variable):
    """By how much the goal falls for each unit of a variable, a share."""
    if variable in table.inside:
        return Share(0)
    return Share(table.rows[-1][table.outside.index(variable)], table.scale)


def _weights(table, names):
    """The weights of names that the prices of their positive literals give."""
    weights = Weights()
    for at, name in enumerate(names):
        price = _price(table, len(table.outside) + 2 * at)
        # Both literals of a name cost 1 or more together, so 1 less this is enough for the other.
        weights[name] = price if price <= 1 else Share(1)
    return weights


def game_value(book):
    """The value of a book of at most 6 names and 12 clauses, with weights and a mixture."""
    if len(book.names) > MOST_NAMES:
        raise TooMany(MOST_NAMES)
    if len(book) > MOST_CLAUSES:
        raise TooMany(MOST_CLAUSES)
    table = _solved(_program(book))
    share = Share(table.rows[-1][-1], table.scale)
    return GameValue(share, _weights(table, book.names), _mixture(table, list(book)))
