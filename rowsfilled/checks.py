"""Judges values of every kind, and raises the errors that several modules name."""

from rowsfilled.errors import BadPoly, BadPrime, TooMany

MOST_POWER = 999
MOST_DEGREE = 12
MOST_SMALL = 3
MOST_SUM = 2


def is_number(thing):
    # Python counts True and False among the ints, the document does not.
    return isinstance(thing, int) and not isinstance(thing, bool)


def is_number_within(thing, least, most):
    return is_number(thing) and least <= thing <= most


def is_prime(thing):
    return is_number(thing) and thing in (2, 3, 5, 7)


def is_term(prime, thing):
    if not isinstance(thing, tuple) or len(thing) != 3:
        return False
    i, j, c = thing
    if not is_number_within(i, 0, MOST_POWER) or not is_number_within(j, 0, MOST_POWER):
        return False
    return is_number_within(c, 1, prime - 1)


def is_poly_of(prime, thing):
    """Whether any value is a poly of this prime, which is not judged."""
    if not isinstance(thing, tuple):
        return False
    before = (-1, -1)
    for term in thing:
        if not is_term(prime, term) or term[:2] <= before:
            return False
        before = term[:2]
    return True


def is_x_poly_of(prime, thing):
    return is_poly_of(prime, thing) and all([term[1] == 0 for term in thing])


def check_prime(prime):
    if not is_prime(prime):
        raise BadPrime("prime is not 2, 3, 5 or 7")


def check_poly(prime, poly):
    if not is_poly_of(prime, poly):
        raise BadPoly("no poly of this prime")


def check_x_poly(prime, poly):
    if not is_x_poly_of(prime, poly):
        raise BadPoly("no poly of this prime without y")


def within_powers(poly):
    """The poly as it is, unless a power in it is too high to be told."""
    for term in poly:
        if term[0] > MOST_POWER or term[1] > MOST_POWER:
            raise TooMany(MOST_POWER)
    return poly
