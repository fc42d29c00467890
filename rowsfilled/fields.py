"""Polys modulo a prime poly in x, the modulus: the polys in x are a field there."""

from rowsfilled.checks import check_poly, check_prime, check_x_poly, within_powers
from rowsfilled.errors import BadPoly, TooMany
from rowsfilled.moduli import check_modulus, field_size, list_inverse, list_rest, members, rest_common_told, rest_placed
from rowsfilled.moduli import rest_times, y_rest
from rowsfilled.xlists import list_of, x_poly_of
from rowsfilled.ylists import poly_of_y, y_list_of

MOST_MEMBERS = 300


def rest_at(prime, modulus, poly):
    """The poly whose parts are the rests of the parts of poly."""
    check_prime(prime)
    check_modulus(prime, modulus)
    check_poly(prime, poly)
    return poly_of_y(rests_of(prime, modulus, poly))


def rests_of(prime, modulus, poly):
    return y_rest(prime, list_of(modulus), y_list_of(poly))


def check_at(prime, modulus, one, other):
    check_prime(prime)
    check_modulus(prime, modulus)
    check_poly(prime, one)
    check_poly(prime, other)


def times_at(prime, modulus, one, other):
    """What one times other leaves."""
    check_at(prime, modulus, one, other)
    first = rests_of(prime, modulus, one)
    second = rests_of(prime, modulus, other)
    return within_powers(poly_of_y(rest_times(prime, list_of(modulus), first, second)))


def inverse_at(prime, modulus, poly):
    """The poly in x that times poly leaves the rest 1."""
    check_prime(prime)
    check_modulus(prime, modulus)
    check_x_poly(prime, poly)
    numbers = list_rest(prime, list_of(modulus), list_of(poly))
    if not numbers:
        raise BadPoly("the modulus divides the poly")
    return x_poly_of(list_inverse(prime, list_of(modulus), numbers))


def common_at(prime, modulus, one, other):
    """The triple (g, s, t): the greatest common factor g in y, which s times one plus t times other leaves."""
    check_at(prime, modulus, one, other)
    first = rests_of(prime, modulus, one)
    second = rests_of(prime, modulus, other)
    g, s, t = rest_common_told(prime, list_of(modulus), first, second)
    return poly_of_y(g), poly_of_y(s), poly_of_y(t)


def roots_at(prime, modulus, poly):
    """The polys in x that, put for y, let the poly leave the rest ()."""
    check_prime(prime)
    check_modulus(prime, modulus)
    check_poly(prime, poly)
    rows = rests_of(prime, modulus, poly)
    if not rows:
        raise BadPoly("the modulus divides all parts of the poly")
    if field_size(prime, list_of(modulus)) > MOST_MEMBERS:
        raise TooMany(MOST_MEMBERS)
    numbers = list_of(modulus)
    return sorted([x_poly_of(z) for z in members(prime, numbers) if not rest_placed(prime, numbers, rows, z)])
