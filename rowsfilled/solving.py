"""Solutions of rows that come to 1, their bases, and tables that lead one such row to another."""

from rowsfilled.checks import check_prime
from rowsfilled.errors import BadBasis, BadColumn, Lost
from rowsfilled.filling import check_low_row, is_one_table
from rowsfilled.growth import multiples_of
from rowsfilled.openings import opening_tables
from rowsfilled.shapes import check_low, check_row, check_row_of, is_row_of
from rowsfilled.tables import adjoint_of, columns_of, determinant_of, row_times, row_within, sum_of_products
from rowsfilled.tables import table_times, table_within
from rowsfilled.terms import has_no_letter, multiplied
from rowsfilled.xlists import inverse_number


def is_solution_of(prime, row, thing):
    return is_row_of(prime, thing, len(row)) and sum_of_products(prime, row, thing) == ()


def is_solution(prime, row, thing):
    """Whether any value is a column whose products with the entries of the row add up to ()."""
    check_prime(prime)
    check_row(prime, row)
    return is_solution_of(prime, row, thing)


def basis(prime, row):
    """Solutions of which each one is, in just one way, a sum of multiples; None if the row does not come to 1."""
    check_low_row(prime, row)
    found = opening_tables(prime, row)
    return None if found is None else table_within(columns_of(found[0])[1:])


def ones_found(prime, row):
    """A column by which the row adds up to one."""
    told = multiples_of(prime, [(poly,) for poly in row], 1)
    if told is None:
        raise Lost("the row does not come to 1")
    return told[0]


def is_basis_behind(prime, row, column, thing):
    """Whether any value is a basis of the row, the column being one by which the row adds up to one."""
    if not isinstance(thing, tuple) or len(thing) != len(row) - 1:
        return False
    if not all([is_solution_of(prime, row, held) for held in thing]):
        return False
    whole = determinant_of(prime, (column,) + thing)
    return whole != () and has_no_letter(whole)


def is_basis(prime, row, thing):
    """Whether any value is a basis of the row."""
    check_low_row(prime, row)
    return is_basis_behind(prime, row, ones_found(prime, row), thing)


def parts_of(prime, row, columns, column):
    """The polys whose products with the columns of a basis add up to the column."""
    check_low_row(prime, row)
    first = ones_found(prime, row)
    if not is_basis_behind(prime, row, first, columns):
        raise BadBasis("no basis of the row")
    if not is_solution_of(prime, row, column):
        raise BadColumn("no solution of the row")
    table = (first,) + columns
    number = ((0, 0, inverse_number(prime, determinant_of(prime, table)[0][2])),)
    parts = row_times(prime, column, adjoint_of(prime, table))
    return row_within([multiplied(prime, number, part) for part in parts[1:]])


def check_both(prime, row, other):
    check_prime(prime)
    check_row(prime, row)
    check_row_of(prime, other, len(row))


def led(prime, row, other):
    """A table with the determinant one by which the row is the other one; None if that does not come to 1."""
    check_both(prime, row, other)
    check_low(row)
    check_low(other)
    here = opening_tables(prime, row)
    if here is None:
        raise Lost("the row does not come to 1")
    there = opening_tables(prime, other)
    return None if there is None else table_within(table_times(prime, here[0], there[1]))


def is_led(prime, row, other, thing):
    """Whether any value is a table with the determinant one by which the row is the other one."""
    check_both(prime, row, other)
    return is_one_table(prime, thing, len(row)) and row_times(prime, row, thing) == other
