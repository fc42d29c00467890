"""Rows whose entries have multiples that add up to 1."""

from rowsfilled.checks import check_prime
from rowsfilled.growth import multiples_of
from rowsfilled.shapes import check_row, check_small, is_row_of
from rowsfilled.tables import row_within, sum_of_products
from rowsfilled.terms import ONE


def are_ones(prime, row, thing):
    """Whether any value is a tuple of polys which, each times the entry with its index, add up to 1."""
    check_prime(prime)
    check_row(prime, row)
    return is_row_of(prime, thing, len(row)) and sum_of_products(prime, row, thing) == ONE


def ones(prime, row):
    """A tuple of polys which, each times the entry with its index, add up to 1; None if there is none."""
    check_prime(prime)
    check_row(prime, row)
    check_small(row)
    found = multiples_of(prime, [(poly,) for poly in row], 1)
    return None if found is None else row_within(found[0])
