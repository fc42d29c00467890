"""Judges rows, tables and grids of polys."""

from rowsfilled.checks import MOST_SMALL, MOST_SUM, is_poly_of
from rowsfilled.errors import BadGrid, BadRow, BadStrip, BadTable, TooMany
from rowsfilled.terms import high_of

SIZES = (2, 3, 4)


def is_row_of(prime, thing, size):
    """Whether any value is a tuple of so many polys."""
    return isinstance(thing, tuple) and len(thing) == size and all([is_poly_of(prime, poly) for poly in thing])


def is_rows_of(prime, thing, many, size):
    """Whether any value is a tuple of so many rows of this size."""
    return isinstance(thing, tuple) and len(thing) == many and all([is_row_of(prime, row, size) for row in thing])


def is_table_of(prime, thing):
    """Whether any value is a table."""
    return isinstance(thing, tuple) and len(thing) in SIZES and is_rows_of(prime, thing, len(thing), len(thing))


def is_grid_of(prime, thing):
    """Whether any value is a grid."""
    if not isinstance(thing, tuple):
        return False
    return any([is_rows_of(prime, thing, len(thing), size) for size in SIZES if 1 <= len(thing) <= size])


def is_strip_of(prime, thing):
    """Whether any value is a strip."""
    return any([is_rows_of(prime, thing, size - 1, size) for size in (3, 4)])


def check_row(prime, row):
    if not any([is_row_of(prime, row, size) for size in SIZES]):
        raise BadRow("no tuple of two to four polys of this prime")


def check_small(row):
    if any([max(high_of(poly, 0), high_of(poly, 1)) > MOST_SMALL for poly in row]):
        raise TooMany(MOST_SMALL)


def check_row_of(prime, row, size):
    if not is_row_of(prime, row, size):
        raise BadRow("no tuple of so many polys of this prime")


def check_low(row):
    if any([i + j > MOST_SUM for poly in row for i, j, _ in poly]):
        raise TooMany(MOST_SUM)


def check_table(prime, table):
    if not is_table_of(prime, table):
        raise BadTable("no tuple of two to four rows of as many polys of this prime")


def check_table_of(prime, table, size):
    check_table(prime, table)
    if len(table) != size:
        raise BadTable("a table of another number of rows")


def check_grid(prime, grid):
    if not is_grid_of(prime, grid):
        raise BadGrid("no tuple of rows of two to four polys of this prime, of no more rows than entries")


def check_strip(prime, strip):
    if not is_strip_of(prime, strip):
        raise BadStrip("no tuple of two rows of three, or three rows of four polys of this prime")
