"""Tables of determinant 1 that lead two polys, or whole rows, from one place of y to another."""

from rowsfilled.checks import check_poly, check_prime, is_number_within, is_poly_of, within_powers
from rowsfilled.errors import Apart, BadMixing, BadNumber, BadPlace, BadTelling, NotWhole
from rowsfilled.shapes import check_row, check_table, check_table_of, is_row_of
from rowsfilled.tables import adjoint_of, determinant_of, row_times, row_within, table_times, table_within, unit_table
from rowsfilled.tellings import is_multiple, is_telling_of, mixed_of, moving_table, placed_by, row_moving_table
from rowsfilled.terms import lessened, multiplied
from rowsfilled.xlists import inverse_number


def unit(prime, many):
    """The table with one at the indexes (i, i), () elsewhere."""
    check_prime(prime)
    if not is_number_within(many, 2, 4):
        raise BadNumber("many is no number from 2 to 4")
    return unit_table(many)


def table_product(prime, table, other):
    """The product of two tables."""
    check_prime(prime)
    check_table(prime, table)
    check_table_of(prime, other, len(table))
    return table_within(table_times(prime, table, other))


def row_by(prime, row, table):
    """The product of a row with a table."""
    check_prime(prime)
    check_row(prime, row)
    check_table_of(prime, table, len(row))
    return row_within(row_times(prime, row, table))


def determinant(prime, table):
    """The determinant of the table."""
    check_prime(prime)
    check_table(prime, table)
    return within_powers(determinant_of(prime, table))


def inverse(prime, table):
    """The table whose product with this one, either way, is unit."""
    check_prime(prime)
    check_table(prime, table)
    whole = determinant_of(prime, table)
    if len(whole) != 1 or whole[0][:2] != (0, 0):
        raise NotWhole("the determinant is no number, or 0")
    number = ((0, 0, inverse_number(prime, whole[0][2])),)
    return table_within([[multiplied(prime, number, poly) for poly in row] for row in adjoint_of(prime, table)])


def check_place(prime, place):
    if not is_poly_of(prime, place):
        raise BadPlace("no poly that could be put for y")


def placed(prime, poly, place):
    """What comes of the poly if place is put for y."""
    check_prime(prime)
    check_poly(prime, poly)
    check_place(prime, place)
    return within_powers(placed_by(prime, poly, place))


def placed_row(prime, row, place):
    """The row of all entries, placed."""
    check_prime(prime)
    check_row(prime, row)
    check_place(prime, place)
    return row_within([placed_by(prime, poly, place) for poly in row])


def is_telling(prime, one, other, thing):
    """Whether any value is a triple (r, u, v), r in x alone and not (), and u times one plus v times other is r."""
    check_prime(prime)
    check_poly(prime, one)
    check_poly(prime, other)
    return is_telling_of(prime, one, other, thing)


def check_way(prime, one, other, telling, place, goal):
    if not is_telling_of(prime, one, other, telling):
        raise BadTelling("no telling of the two polys")
    check_place(prime, place)
    check_place(prime, goal)
    if not is_multiple(prime, lessened(prime, goal, place), telling[0]):
        raise Apart("goal less place is no multiple of what is told")


def moved_two(prime, one, other, telling, place, goal):
    """The table of two rows that leads the polys at the place to the polys at the goal."""
    check_prime(prime)
    check_poly(prime, one)
    check_poly(prime, other)
    check_way(prime, one, other, telling, place, goal)
    return table_within(moving_table(prime, one, other, telling, place, goal))


def check_mixing(prime, row, mixing):
    if not is_row_of(prime, mixing, len(row) - 2):
        raise BadMixing("no tuple of a poly for each entry but two")


def mixed_entry(prime, row, mixing):
    """The second entry of the row, plus multiples of those behind it."""
    check_prime(prime)
    check_row(prime, row)
    check_mixing(prime, row, mixing)
    return within_powers(mixed_of(prime, row, mixing))


def moved_row(prime, row, mixing, telling, place, goal):
    """The table that leads the row at the place to the row at the goal."""
    check_prime(prime)
    check_row(prime, row)
    check_mixing(prime, row, mixing)
    check_way(prime, row[0], mixed_of(prime, row, mixing), telling, place, goal)
    return table_within(row_moving_table(prime, row, mixing, telling, place, goal))
