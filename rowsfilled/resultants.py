"""The resultant of two polys in the letter y, told with the multiples that come to it."""

from rowsfilled.chains import chain_end, end_degree, end_told
from rowsfilled.checks import MOST_POWER, check_poly, check_prime, within_powers
from rowsfilled.errors import BadPoly, NoLetter, TooMany
from rowsfilled.terms import high_of
from rowsfilled.ylists import poly_of_y, y_list_of


def check_factor(prime, poly):
    check_poly(prime, poly)
    if poly == ():
        raise BadPoly("nothing has no resultant")


def resultant(prime, one, other):
    """The triple (r, u, v): the determinant of Sylvester's table, and r is u times one plus v times other."""
    check_prime(prime)
    check_factor(prime, one)
    check_factor(prime, other)
    if high_of(one, 1) + high_of(other, 1) == 0:
        raise NoLetter("no y stands in the two polys")
    now, then, divisor, sign = chain_end(prime, [y_list_of(one), [[1]], []], [y_list_of(other), [], [[1]]])
    # What is far above the limit would take too long to be worked out.
    if then[0] and end_degree(now, then, divisor) > MOST_POWER:
        raise TooMany(MOST_POWER)
    r, u, v = [within_powers(poly_of_y(rows)) for rows in end_told(prime, now, then, divisor, sign)]
    return r, u, v
