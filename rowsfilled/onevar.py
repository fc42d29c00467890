"""Polys in x alone: division, common factors, prime polys."""

from rowsfilled.checks import MOST_DEGREE, check_prime, check_x_poly
from rowsfilled.errors import BadPoly, TooMany
from rowsfilled.splitting import is_prime_list, split_list
from rowsfilled.terms import high_of
from rowsfilled.xlists import inverse_number, list_common_told, list_divided, list_of, list_scaled, x_poly_of


def divided(prime, one, other):
    """The pair (quotient, rest) of one by other."""
    check_prime(prime)
    check_x_poly(prime, one)
    check_x_poly(prime, other)
    if other == ():
        raise BadPoly("nothing divides no poly")
    quotient, rest = list_divided(prime, list_of(one), list_of(other))
    return x_poly_of(quotient), x_poly_of(rest)


def common(prime, one, other):
    """The triple (g, s, t): the monic greatest common factor g, which is s times one plus t times other."""
    check_prime(prime)
    check_x_poly(prime, one)
    check_x_poly(prime, other)
    g, s, t = list_common_told(prime, list_of(one), list_of(other))
    return x_poly_of(g), x_poly_of(s), x_poly_of(t)


def check_degree(poly):
    if high_of(poly, 0) > MOST_DEGREE:
        raise TooMany(MOST_DEGREE)


def monic_told(prime, poly):
    """The pair (c, list) for a poly that is not (): the poly is c times the monic list."""
    numbers = list_of(poly)
    return numbers[-1], list_scaled(prime, inverse_number(prime, numbers[-1]), numbers)


def is_prime_poly(prime, poly):
    """Whether the poly is monic, not a number, and no product of two of lesser degree."""
    check_prime(prime)
    check_x_poly(prime, poly)
    check_degree(poly)
    if high_of(poly, 0) < 1 or poly[-1][2] != 1:
        return False
    return is_prime_list(prime, list_of(poly))


def factors(prime, poly):
    """The pair (c, several) of a number and the pairs (q, times) of prime polys whose product is the poly."""
    check_prime(prime)
    check_x_poly(prime, poly)
    if poly == ():
        raise BadPoly("nothing is no product of prime polys")
    check_degree(poly)
    c, numbers = monic_told(prime, poly)
    if len(numbers) == 1:
        return c, []
    found = sorted([(len(root), x_poly_of(root), often) for root, often in split_list(prime, numbers)])
    return c, [(q, often) for _, q, often in found]
