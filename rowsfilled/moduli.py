"""Lists in x and in y (xlists.py, ylists.py) modulo a monic list in x, the modulus; rests are of a lesser degree."""

from rowsfilled.checks import MOST_DEGREE, is_x_poly_of
from rowsfilled.errors import BadModulus
from rowsfilled.splitting import is_prime_list
from rowsfilled.terms import high_of
from rowsfilled.xlists import list_common_told, list_divided, list_of, list_plus, list_times, trimmed
from rowsfilled.ylists import y_less, y_scaled, y_times, y_trimmed


def is_modulus_of(prime, thing):
    """Whether any value is a prime poly of degree 1 to 12."""
    if not is_x_poly_of(prime, thing) or not 1 <= high_of(thing, 0) <= MOST_DEGREE or thing[-1][2] != 1:
        return False
    return is_prime_list(prime, list_of(thing))


def check_modulus(prime, modulus):
    if not is_modulus_of(prime, modulus):
        raise BadModulus("no prime poly of degree 1 to 12")


def list_rest(prime, modulus, numbers):
    if len(numbers) < len(modulus):
        return numbers
    return list_divided(prime, numbers, modulus)[1]


def y_rest(prime, modulus, rows):
    """The list in y of the rests of all parts."""
    return y_trimmed([list_rest(prime, modulus, numbers) for numbers in rows])


def rest_scaled(prime, modulus, numbers, rows):
    return y_rest(prime, modulus, y_scaled(prime, numbers, rows))


def rest_times(prime, modulus, one, other):
    return y_rest(prime, modulus, y_times(prime, one, other))


def list_inverse(prime, modulus, numbers):
    """The rest that times numbers leaves 1; numbers and modulus have no common factor."""
    if numbers == [1]:
        return numbers
    return list_rest(prime, modulus, list_common_told(prime, numbers, modulus)[1])


def rest_monic(prime, modulus, rows):
    """The list in y, divided by its highest part."""
    return rest_scaled(prime, modulus, list_inverse(prime, modulus, rows[-1]), rows)


def rest_divided(prime, modulus, one, other):
    """The pair (quotient, rest) of rests; the highest part of other has no common factor with the modulus."""
    inverse = list_inverse(prime, modulus, other[-1])
    quotient = [[] for _ in range(len(one) - len(other) + 1)]
    rest = one
    while len(rest) >= len(other):
        gap = len(rest) - len(other)
        quotient[gap] = list_rest(prime, modulus, list_times(prime, rest[-1], inverse))
        taken = [[] for _ in range(gap)] + rest_scaled(prime, modulus, quotient[gap], other)
        rest = y_less(prime, rest, taken)
    return quotient, rest


def rest_common(prime, modulus, one, other):
    """The greatest common factor modulo a prime modulus, with the highest part 1; [] for two empty lists."""
    while other:
        one, other = other, rest_divided(prime, modulus, one, other)[1]
    return rest_monic(prime, modulus, one) if one else []


def rest_common_told(prime, modulus, one, other):
    """The triple (g, s, t): g as of rest_common, and s times one plus t times other leaves g."""
    now, then = (one, [[1]], []), (other, [], [[1]])
    while then[0]:
        quotient, rest = rest_divided(prime, modulus, now[0], then[0])
        first = y_less(prime, now[1], rest_times(prime, modulus, quotient, then[1]))
        second = y_less(prime, now[2], rest_times(prime, modulus, quotient, then[2]))
        now, then = then, (rest, first, second)
    if not now[0]:
        return [], [], []
    inverse = list_inverse(prime, modulus, now[0][-1])
    g, s, t = [rest_scaled(prime, modulus, inverse, rows) for rows in now]
    return g, s, t


def rest_placed(prime, modulus, rows, place):
    """What a list in y leaves if a list in x is put for y."""
    found = []
    for numbers in reversed(rows):
        found = list_rest(prime, modulus, list_plus(prime, list_times(prime, found, place), numbers))
    return found


def field_size(prime, modulus):
    size = 1
    for _ in modulus[1:]:
        size *= prime
    return size


def members(prime, modulus):
    """All lists of a lesser degree than the modulus."""
    found = [[]]
    for _ in modulus[1:]:
        found = [held + [c] for held in found for c in range(prime)]
    return [trimmed(held) for held in found]
