"""Polys in x and y over a small prime: judged, reckoned with, looked into."""

from rowsfilled.checks import MOST_POWER, check_poly, check_prime, is_number_within, is_poly_of, within_powers
from rowsfilled.errors import BadLetter, BadPoly, BadPower
from rowsfilled.terms import added, high_of, lead_of, lessened, multiplied, part_of, substituted


def check_two(prime, one, other):
    check_prime(prime)
    check_poly(prime, one)
    check_poly(prime, other)


def is_poly(prime, thing):
    """Whether any value is a poly."""
    check_prime(prime)
    return is_poly_of(prime, thing)


def plus(prime, one, other):
    """One plus other."""
    check_two(prime, one, other)
    return added(prime, one, other)


def less(prime, one, other):
    """One less other."""
    check_two(prime, one, other)
    return lessened(prime, one, other)


def times(prime, one, other):
    """One times other."""
    check_two(prime, one, other)
    return within_powers(multiplied(prime, one, other))


def high(prime, poly, letter):
    """The greatest power of the letter in a term, -1 for ()."""
    check_prime(prime)
    check_poly(prime, poly)
    if letter not in ("x", "y"):
        raise BadLetter("letter is neither x nor y")
    return high_of(poly, 0 if letter == "x" else 1)


def part(prime, poly, power):
    """The x-poly that stands with y to this power."""
    check_prime(prime)
    check_poly(prime, poly)
    if not is_number_within(power, 0, MOST_POWER):
        raise BadPower("power is no number from 0 to 999")
    return part_of(poly, power)


def lead(prime, poly):
    """The term with the greatest i + j, among these the one with the greatest i."""
    check_prime(prime)
    check_poly(prime, poly)
    if poly == ():
        raise BadPoly("nothing has no lead")
    return lead_of(poly)


def put(prime, poly, one, other):
    """What comes of poly if one is put for x and other for y."""
    check_prime(prime)
    check_poly(prime, poly)
    check_poly(prime, one)
    check_poly(prime, other)
    return within_powers(substituted(prime, poly, one, other))
