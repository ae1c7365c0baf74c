"""Packings of columns into bounds, with the prices that show that no packing is greater.

The rows are whole numbers throughout: each of them has the same bottom, the pivot before.
"""

from sixasone.errors import NoRatio
from sixasone.places import are_finite
from sixasone.ratios import Ratio


def first_rows(columns, bounds):
    """A row for each index, with room of its own and the bound, and behind them the row of the prices."""
    rows = []
    for at, bound in enumerate(bounds):
        room = [1 if at == other else 0 for other in range(len(bounds))]
        rows.append([column[at] for column in columns] + room + [bound])
    return rows + [[-1 for _ in columns] + [0 for _ in bounds] + [0]]


def entering(rows):
    """The first column that makes the sum of the weights greater, or None."""
    for column, price in enumerate(rows[-1]):
        if price < 0:
            return column
    return None


def leaving_row(rows, basis, column):
    """The row that bounds a column most; of several the one of the first column, so that no round comes again."""
    best = None
    for at, used in enumerate(basis):
        if rows[at][column] > 0:
            if best is None:
                best = at
            mine, least = rows[at][-1] * rows[best][column], rows[best][-1] * rows[at][column]
            if mine < least or (mine == least and used < basis[best]):
                best = at
    return best


def cleared(row, pivot_row, column, bottom):
    """A row, less what of the pivot's row makes it 0 in a column."""
    pivot, factor = pivot_row[column], row[column]
    return [(pivot * mine - factor * other) // bottom for mine, other in zip(row, pivot_row)]


def solved(columns, bounds):
    """The last rows, the columns that they weigh, and the bottom of all numbers."""
    rows = first_rows(columns, bounds)
    basis = [len(columns) + at for at in range(len(bounds))]
    bottom = 1
    column = entering(rows)
    while column is not None:
        best = leaving_row(rows, basis, column)
        pivot_row = rows[best]
        rows = [row if at == best else cleared(row, pivot_row, column, bottom) for at, row in enumerate(rows)]
        basis[best] = column
        bottom = pivot_row[column]
        column = entering(rows)
    return rows, basis, bottom


def packing(columns, bounds):
    """A packing and prices, where the sum of the weights is the cost of the bounds."""
    if not all([any(column) for column in columns]):
        raise NoRatio()
    rows, basis, bottom = solved(columns, bounds)
    weights = [Ratio(0) for _ in columns]
    for at, column in enumerate(basis):
        if column < len(columns):
            weights[column] = Ratio(rows[at][-1], bottom)
    prices = rows[-1][len(columns):-1]
    return tuple(weights), tuple([Ratio(price, bottom) for price in prices])


def weighed(weights, numbers):
    """The sum of numbers, each times its weight."""
    return Ratio.total([weight * number for weight, number in zip(weights, numbers)])


def are_weights(thing, many):
    """Whether any value is a tuple of so many ratios from 0 on that are not endless."""
    return are_finite(thing, many) and all([weight >= 0 for weight in thing])


def shows_packing(columns, bounds, thing):
    """Whether any value is such a pair."""
    if not isinstance(thing, tuple) or len(thing) != 2:
        return False
    weights, prices = thing
    if not are_weights(weights, len(columns)) or not are_weights(prices, len(bounds)):
        return False
    for at, bound in enumerate(bounds):
        if weighed(weights, [column[at] for column in columns]) > bound:
            return False
    if any([weighed(prices, column) < 1 for column in columns]):
        return False
    return Ratio.total(weights) == weighed(prices, bounds)
