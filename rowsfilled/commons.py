"""Common factors and quotients of polys in both letters."""

from rowsfilled.checks import check_poly, check_prime
from rowsfilled.divisors import exact_quotient, factor_shared
from rowsfilled.errors import BadPoly


def common_factor(prime, one, other):
    """The greatest common factor of two polys, c being 1 in its last term; () if both are ()."""
    check_prime(prime)
    check_poly(prime, one)
    check_poly(prime, other)
    return factor_shared(prime, one, other)


def quotient(prime, one, other):
    """The poly that times other is one; None if there is none."""
    check_prime(prime)
    check_poly(prime, one)
    check_poly(prime, other)
    if other == ():
        raise BadPoly("nothing divides no poly")
    return exact_quotient(prime, one, other)
