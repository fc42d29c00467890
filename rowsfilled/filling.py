"""Rows filled to tables of determinant 1, and the places along which y is led to nothing."""

from rowsfilled.checks import check_prime
from rowsfilled.coming import check_plain_row, is_coming_of
from rowsfilled.errors import BadComing
from rowsfilled.openings import opening_tables
from rowsfilled.shapes import check_low, check_row, is_rows_of
from rowsfilled.tables import determinant_of, row_times, row_within, table_within, unit_table
from rowsfilled.tellings import row_moving_table
from rowsfilled.terms import ONE, lessened, multiplied

Y = ((0, 1, 1),)


def check_brought(prime, row, brought):
    check_plain_row(prime, row)
    if not is_coming_of(prime, row, brought):
        raise BadComing("no coming of the row")


def places_told(prime, brought):
    """The places of a coming, from y to ()."""
    tellings, shares = brought
    places = [Y]
    for (_, telling), share in zip(tellings, shares):
        change = multiplied(prime, multiplied(prime, share, telling[0]), Y)
        places.append(lessened(prime, places[-1], change))
    return list(row_within(places))


def places_of(prime, row, brought):
    """The places from y to (), each one before less a multiple of what the next telling tells."""
    check_brought(prime, row, brought)
    return places_told(prime, brought)


def moves_of(prime, row, brought):
    """The tables that lead the row from each of these places to the next one."""
    check_brought(prime, row, brought)
    places = places_told(prime, brought)
    moves = []
    for k, (mixing, telling) in enumerate(brought[0]):
        moves.append(table_within(row_moving_table(prime, row, mixing, telling, places[k], places[k + 1])))
    return moves


def check_low_row(prime, row):
    check_prime(prime)
    check_row(prime, row)
    check_low(row)


def filled(prime, row):
    """A table with the determinant one whose first row is the row, None if there is none."""
    check_low_row(prime, row)
    found = opening_tables(prime, row)
    return None if found is None else table_within(found[1])


def is_one_table(prime, thing, size):
    """Whether any value is a table of so many rows with the determinant one."""
    return is_rows_of(prime, thing, size, size) and determinant_of(prime, thing) == ONE


def is_filled(prime, row, thing):
    """Whether any value is a table with the determinant one whose first row is the row."""
    check_prime(prime)
    check_row(prime, row)
    return is_one_table(prime, thing, len(row)) and thing[0] == row


def opened(prime, row):
    """A table with the determinant one by which the row is one, then () only; None if there is none."""
    check_low_row(prime, row)
    found = opening_tables(prime, row)
    return None if found is None else table_within(found[0])


def is_opened(prime, row, thing):
    """Whether any value is a table with the determinant one by which the row is one, then () only."""
    check_prime(prime)
    check_row(prime, row)
    return is_one_table(prime, thing, len(row)) and row_times(prime, row, thing) == unit_table(len(row))[0]
