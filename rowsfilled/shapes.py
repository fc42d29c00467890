"""Judges rows, tables and grids of polys, and single steps."""

from rowsfilled.checks import MOST_SMALL, MOST_SUM, check_prime, is_number_within, is_poly_of
from rowsfilled.errors import BadGrid, BadRow, BadSize, BadStrip, BadTable, TooMany
from rowsfilled.terms import high_of

SIZES = (2, 3, 4)


def is_row_of(prime, thing, size):
    """Whether any value is a tuple of so many polys."""
    return isinstance(thing, tuple) and len(thing) == size and all([is_poly_of(prime, poly) for poly in thing])


def is_rows_of(prime, thing, many, size):
    """Whether any value is a tuple of so many rows of this size."""
    return isinstance(thing, tuple) and len(thing) == many and all([is_row_of(prime, row, size) for row in thing])


def is_table_of(prime, thing):
    """Whether any value is a table."""
    return isinstance(thing, tuple) and len(thing) in SIZES and is_rows_of(prime, thing, len(thing), len(thing))


def is_grid_of(prime, thing):
    """Whether any value is a grid."""
    if not isinstance(thing, tuple):
        return False
    return any([is_rows_of(prime, thing, len(thing), size) for size in SIZES if 1 <= len(thing) <= size])


def is_strip_of(prime, thing):
    """Whether any value is a strip."""
    return any([is_rows_of(prime, thing, size - 1, size) for size in (3, 4)])


def check_row(prime, row):
    if not any([is_row_of(prime, row, size) for size in SIZES]):
        raise BadRow("no tuple of two to four polys of this prime")


def check_small(row):
    if any([max(high_of(poly, 0), high_of(poly, 1)) > MOST_SMALL for poly in row]):
        raise TooMany(MOST_SMALL)


def check_row_of(prime, row, size):
    if not is_row_of(prime, row, size):
        raise BadRow("no tuple of so many polys of this prime")


def check_low(row):
    if any([i + j > MOST_SUM for poly in row for i, j, _ in poly]):
        raise TooMany(MOST_SUM)


def check_table(prime, table):
    if not is_table_of(prime, table):
        raise BadTable("no tuple of two to four rows of as many polys of this prime")


def check_table_of(prime, table, size):
    check_table(prime, table)
    if len(table) != size:
        raise BadTable("a table of another number of rows")


def check_grid(prime, grid):
    if not is_grid_of(prime, grid):
        raise BadGrid("no tuple of rows of two to four polys of this prime, of no more rows than entries")


def check_strip(prime, strip):
    if not is_strip_of(prime, strip):
        raise BadStrip("no tuple of two rows of three, or three rows of four polys of this prime")


def check_size(prime, size):
    check_prime(prime)
    if not is_number_within(size, 2, 4):
        raise BadSize("size is no number from 2 to 4")


def are_places(size, i, j):
    """Whether any two values are different indexes below the size."""
    return is_number_within(i, 0, size - 1) and is_number_within(j, 0, size - 1) and i != j


def is_step_of(prime, size, thing):
    """Whether any value is a step of this size."""
    if not isinstance(thing, tuple) or len(thing) != 3:
        return False
    i, j, poly = thing
    return are_places(size, i, j) and is_poly_of(prime, poly)


def are_steps_of(prime, size, thing):
    """Whether any value is a list of steps of this size."""
    return isinstance(thing, (list, tuple)) and all([is_step_of(prime, size, step) for step in thing])
