"""Common zeros of rows, told by spots."""

from rowsfilled.checks import check_prime
from rowsfilled.errors import TooMany
from rowsfilled.growth import unlike_size
from rowsfilled.moduli import check_modulus, field_size, members, rest_placed
from rowsfilled.shapes import check_row, check_small
from rowsfilled.spots import is_spot_form, is_zero_there, spot_of_all
from rowsfilled.xlists import list_of, x_poly_of
from rowsfilled.ylists import poly_of_y, y_list_of

MOST_MEMBERS = 30


def check_small_row(prime, row):
    check_prime(prime)
    check_row(prime, row)
    check_small(row)


def is_spot(prime, row, thing):
    """Whether any value is a spot of the row."""
    check_small_row(prime, row)
    return is_spot_form(prime, thing) and all([is_zero_there(prime, thing, poly) for poly in row])


def common_spot(prime, row):
    """A spot of the row, None if there is none."""
    check_small_row(prime, row)
    found = spot_of_all(prime, row)
    if found is None:
        return None
    q, h = found
    return None, x_poly_of(q), poly_of_y(h)


def zeros_at(prime, modulus, row):
    """The pairs (X, Y) of members of the field that, put for x and y, make all entries of the row 0."""
    check_prime(prime)
    check_modulus(prime, modulus)
    check_row(prime, row)
    check_small(row)
    numbers = list_of(modulus)
    if field_size(prime, numbers) > MOST_MEMBERS:
        raise TooMany(MOST_MEMBERS)
    found = []
    for first in members(prime, numbers):
        several = [in_y_alone(prime, numbers, poly, first) for poly in row]
        for second in members(prime, numbers):
            if not any([rest_placed(prime, numbers, rows, second) for rows in several]):
                found.append((x_poly_of(first), x_poly_of(second)))
    return sorted(found)


def in_y_alone(prime, modulus, poly, place):
    """The list in y of members that is left if place is put for x."""
    rows = []
    for numbers in y_list_of(poly):
        rows.append(rest_placed(prime, modulus, [[c] if c else [] for c in numbers], place))
    return rows


def rest_size(prime, row):
    """The number s for which there are just prime ** s unlike polys, None if there are endlessly many."""
    check_small_row(prime, row)
    return unlike_size(prime, row)
