"""Rows and tables of polys reckoned with, but not judged; powers may grow above every limit."""

from rowsfilled.checks import within_powers
from rowsfilled.terms import ONE, add_product, added, gathered, lessened, multiplied


def sum_of_products(prime, one, other):
    """The sum of the products of two tuples of polys, item by item."""
    sums = {}
    for first, second in zip(one, other):
        add_product(sums, first, second)
    return gathered(prime, sums)


def unit_table(size):
    return tuple([tuple([ONE if i == j else () for j in range(size)]) for i in range(size)])


def columns_of(table):
    return tuple([tuple([row[at] for row in table]) for at in range(len(table[0]))])


def row_times(prime, row, table):
    return tuple([sum_of_products(prime, row, column) for column in columns_of(table)])


def table_times(prime, table, other):
    return tuple([row_times(prime, row, other) for row in table])


def without(table, i, j):
    """The table without the row i and the column j."""
    return tuple([row[:j] + row[j + 1:] for k, row in enumerate(table) if k != i])


def signed(prime, number, poly):
    """The poly, times -1 if the number is odd."""
    return poly if number % 2 == 0 else lessened(prime, (), poly)


def determinant_of(prime, table):
    if len(table) == 1:
        return table[0][0]
    found = ()
    for at, poly in enumerate(table[0]):
        if poly != ():
            share = multiplied(prime, poly, determinant_of(prime, without(table, 0, at)))
            found = added(prime, found, signed(prime, at, share))
    return found


def adjoint_of(prime, table):
    places = range(len(table))
    rows = []
    for i in places:
        rows.append(tuple([signed(prime, i + j, determinant_of(prime, without(table, j, i))) for j in places]))
    return tuple(rows)


def lots(size, many):
    """The ascending tuples of so many of the numbers below size, in ascending sequence."""
    found = [()]
    for _ in range(many):
        found = [lot + (at,) for lot in found for at in range(lot[-1] + 1 if lot else 0, size)]
    return found


def minors_of(prime, grid):
    """The determinants of all tables that as many columns as there are rows make."""
    found = []
    for lot in lots(len(grid[0]), len(grid)):
        found.append(determinant_of(prime, tuple([tuple([row[at] for at in lot]) for row in grid])))
    return tuple(found)


def row_within(row):
    return tuple([within_powers(poly) for poly in row])


def table_within(table):
    return tuple([row_within(row) for row in table])
