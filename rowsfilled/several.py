"""Strips: grids in which just one row is missing to a table."""

from rowsfilled.checks import check_prime, within_powers
from rowsfilled.errors import BadGoals, NotOnes, NotSolved
from rowsfilled.filling import is_one_table
from rowsfilled.growth import multiples_of
from rowsfilled.shapes import check_row_of, check_strip, is_row_of
from rowsfilled.tables import columns_of, minors_of, row_within, signed, sum_of_products


def check_prime_and_strip(prime, strip):
    check_prime(prime)
    check_strip(prime, strip)


def crossing_of(prime, strip):
    """The determinants of the strip without each of its columns, times -1 for each odd column."""
    # The minors leave the last column out first.
    return tuple([signed(prime, at, poly) for at, poly in enumerate(reversed(minors_of(prime, strip)))])


def goals_told(prime, strip):
    """As many rows as the strip has, whose products with its rows are 1 for the same index, () otherwise; or None."""
    return multiples_of(prime, columns_of(strip), len(strip))


def goals_found(prime, strip):
    told = goals_told(prime, strip)
    if told is None:
        raise NotOnes("the minors of the strip do not come to 1")
    return told


def last_told(prime, strip, told):
    """The row that makes a table of determinant 1 of the strip and whose products with the rows told are all ().

    The sum of its products with the crossing is, but for the sign, that of the products of the minors of the strip
    and of the rows told: the determinant of the unit table.
    """
    return tuple([signed(prime, len(strip), poly) for poly in crossing_of(prime, told)])


def crossing(prime, strip):
    """The row of the determinants of the strip without each of its columns, every other one times -1."""
    check_prime_and_strip(prime, strip)
    return row_within(crossing_of(prime, strip))


def last_row(prime, strip):
    """A row that makes a table with the determinant one of the strip, None if there is none."""
    check_prime_and_strip(prime, strip)
    told = goals_told(prime, strip)
    return None if told is None else row_within(last_told(prime, strip, told))


def is_last_row(prime, strip, thing):
    """Whether any value is a row that makes a table with the determinant one of the strip."""
    check_prime_and_strip(prime, strip)
    return is_one_table(prime, tuple(strip) + (thing,), len(strip) + 1)


def solves_all(prime, strip, row):
    return all([sum_of_products(prime, held, row) == () for held in strip])


def solves(prime, strip, row):
    """Whether the products of the row with the rows of the strip are ()."""
    check_prime_and_strip(prime, strip)
    check_row_of(prime, row, len(strip[0]))
    return solves_all(prime, strip, row)


def factor_of(prime, strip, row):
    """The poly that, times each entry of the crossing, makes the row, which solves."""
    check_prime_and_strip(prime, strip)
    told = goals_found(prime, strip)
    check_row_of(prime, row, len(strip[0]))
    if not solves_all(prime, strip, row):
        raise NotSolved("the row does not solve the strip")
    # The products of the crossings of the strip and of the rows told add up to 1.
    return within_powers(sum_of_products(prime, row, crossing_of(prime, told)))


def goal_met(prime, strip, goals):
    """A row whose products with the rows of the strip are the goals."""
    check_prime_and_strip(prime, strip)
    told = goals_found(prime, strip)
    if not is_row_of(prime, goals, len(strip)):
        raise BadGoals("no tuple of a poly for each row of the strip")
    return row_within([sum_of_products(prime, goals, column) for column in columns_of(told)])
