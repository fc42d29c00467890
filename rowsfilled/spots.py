"""Spots (point 31): judged, and found for any number of polys."""

from rowsfilled.chains import chain_end, end_told
from rowsfilled.checks import is_poly_of, is_x_poly_of
from rowsfilled.divisors import factor_of_all
from rowsfilled.mixings import mixing_over
from rowsfilled.moduli import list_rest, rest_common, rest_divided, rest_monic, y_rest
from rowsfilled.splitting import next_prime, split_list
from rowsfilled.terms import ONE, high_of, part_of
from rowsfilled.turns import is_turn, turned_by
from rowsfilled.xlists import list_common_of, list_monic, list_of
from rowsfilled.ylists import y_list_of, y_plus, y_times


def is_spot_form(prime, thing):
    """Whether any value is a triple (turn, q, h) as those of spots are."""
    if not isinstance(thing, tuple) or len(thing) != 3:
        return False
    turn, q, h = thing
    if turn is not None and not is_turn(turn) or not is_x_poly_of(prime, q) or not is_poly_of(prime, h):
        return False
    if high_of(q, 0) < 1 or q[-1][2] != 1:
        return False
    return high_of(h, 1) >= 1 and part_of(h, high_of(h, 1)) == ONE


def rest_by_both(prime, q, h, rows):
    """What a list in y leaves by the list q in x and the list h in y, whose highest part is 1."""
    return rest_divided(prime, q, y_rest(prime, q, rows), y_rest(prime, q, h))[1]


def is_in(prime, q, h, poly):
    """Whether the poly is a sum of a multiple of the poly q and one of the poly h."""
    return rest_by_both(prime, list_of(q), y_list_of(h), y_list_of(poly)) == []


def is_zero_there(prime, spot, poly):
    """Whether the poly, turned, is a sum of multiples as the spot asks."""
    turn, q, h = spot
    return is_in(prime, q, h, turned_by(prime, poly, turn))


def prime_apart(prime, numbers):
    """The first prime list that does not divide the list, which is not []."""
    q = [0, 1]
    while not list_rest(prime, q, numbers):
        q = next_prime(prime, q)
    return q


def primes_in(prime, numbers):
    """The prime lists that divide the list, which is not [], those of lesser degrees first."""
    if len(numbers) == 1:
        return []
    return sorted([root for root, _ in split_list(prime, list_monic(prime, numbers))], key=len)


def spot_on(prime, rows):
    """A pair (q, h) of lists for a list in y that is no number: it is a sum of multiples of both."""
    if len(rows) == 1:
        return primes_in(prime, rows[0])[0], [[], [1]]
    q = prime_apart(prime, rows[-1])
    return q, rest_monic(prime, q, y_rest(prime, q, rows))


def resultant_of(prime, one, other):
    """The resultant of two lists in y, as a list in x."""
    now, then, divisor, sign = chain_end(prime, [one], [other])
    return end_told(prime, now, then, divisor, sign)[0][0]


def x_list_in(prime, several):
    """A list in x, not [], that is a sum of multiples of lists in y without a common factor with y."""
    without_y = [rows[0] for rows in several if len(rows) == 1]
    if without_y:
        return list_common_of(prime, without_y)
    lists = sorted(several, key=len)
    mixed = lists[1]
    for share, rows in zip(mixing_over(prime, [], lists), lists[2:]):
        mixed = y_plus(prime, mixed, y_times(prime, share, rows))
    return mixed[0] if len(mixed) == 1 else resultant_of(prime, lists[0], mixed)


def common_at_prime(prime, q, several):
    """The greatest common factor of lists in y modulo q."""
    found = []
    for rows in several:
        found = rest_common(prime, q, found, y_rest(prime, q, rows))
    return found


def spot_of_all(prime, polys):
    """A pair (q, h) of lists such that each poly is a sum of multiples of both; None if there is none."""
    shared = factor_of_all(prime, polys)
    if shared == ():
        return [0, 1], [[], [1]]
    if shared != ONE:
        return spot_on(prime, y_list_of(shared))
    several = [y_list_of(poly) for poly in polys if poly != ()]
    for q in primes_in(prime, x_list_in(prime, several)):
        h = common_at_prime(prime, q, several)
        if len(h) > 1:
            return q, h
    return None
