"""Tellings of a row that come to 1: resultants of its first entry, which is plain, with mixtures of the others."""

from rowsfilled.chains import chain_end, end_told
from rowsfilled.checks import check_prime, is_x_poly_of, within_powers
from rowsfilled.errors import BadModulus, NotPlain
from rowsfilled.mixings import mixing_over
from rowsfilled.moduli import is_modulus_of
from rowsfilled.shapes import check_row, is_row_of
from rowsfilled.spots import primes_in
from rowsfilled.tables import row_within, sum_of_products
from rowsfilled.tellings import is_telling_of, mixed_of
from rowsfilled.terms import ONE
from rowsfilled.turns import has_plain_form
from rowsfilled.xlists import list_common, list_common_of, list_common_told, list_divided, list_less, list_of
from rowsfilled.xlists import list_times, x_poly_of
from rowsfilled.ylists import content, poly_of_y, y_list_of, y_shared


def check_plain_row(prime, row):
    check_prime(prime)
    check_row(prime, row)
    if not has_plain_form(row[0]):
        raise NotPlain("the first entry of the row is not plain")


def mixing_for(prime, row, modulus):
    """A mixing with which row[0] and the mixed entry share nothing with y modulo modulus; None if there is none."""
    check_plain_row(prime, row)
    if modulus != () and not is_modulus_of(prime, modulus):
        raise BadModulus("neither () nor a prime poly of degree 1 to 12")
    shares = mixing_over(prime, list_of(modulus), [y_list_of(poly) for poly in row])
    return None if shares is None else row_within([poly_of_y(share) for share in shares])


def is_told_mixing(prime, row, thing):
    """Whether any value is a pair of a mixing of the row and a telling that belongs to it."""
    if not isinstance(thing, tuple) or len(thing) != 2 or not is_row_of(prime, thing[0], len(row) - 2):
        return False
    mixing, telling = thing
    return is_telling_of(prime, row[0], mixed_of(prime, row, mixing), telling)


def is_coming_of(prime, row, thing):
    """Whether any value is a coming of the row."""
    if not isinstance(thing, tuple) or len(thing) != 2 or not isinstance(thing[0], (list, tuple)):
        return False
    tellings, shares = thing
    if len(tellings) == 0 or not all([is_told_mixing(prime, row, held) for held in tellings]):
        return False
    if not is_row_of(prime, shares, len(tellings)) or not all([is_x_poly_of(prime, share) for share in shares]):
        return False
    return sum_of_products(prime, shares, [telling[0] for _, telling in tellings]) == ONE


def is_coming(prime, row, thing):
    """Whether any value is a pair of tellings of the row and shares with which they come to one."""
    check_plain_row(prime, row)
    return is_coming_of(prime, row, thing)


def told_by(prime, row, mixing):
    """The telling (r, u, v) of row[0] and the mixed entry, divided by what divides all three."""
    first, mixed = y_list_of(row[0]), y_list_of(mixed_of(prime, row, mixing))
    if len(first) == 1:
        return row[0], ONE, ()
    now, then, divisor, sign = chain_end(prime, [first, [[1]], []], [mixed, [], [[1]]])
    told = end_told(prime, now, then, divisor, sign)
    shared = list_common_of(prime, [content(prime, rows) for rows in told])
    r, u, v = [poly_of_y(y_shared(prime, rows, shared)) for rows in told]
    return r, u, v


def tellings_of(prime, row):
    """Pairs (mixing, telling) whose r have no common factor; None if there are none.

    The entry row[0] being plain, a prime list q divides the resultant of it and a mixed entry only if they share
    something with y modulo q: so a mixing for q brings an r that q does not divide.
    """
    several = [y_list_of(poly) for poly in row]
    found, left = [], []
    while left != [1]:
        shares = mixing_over(prime, primes_in(prime, left)[0] if left else [], several)
        if shares is None:
            return None
        mixing = tuple([poly_of_y(share) for share in shares])
        telling = told_by(prime, row, mixing)
        found.append((mixing, telling))
        left = list_common(prime, left, list_of(telling[0]))
    return found


def shares_of(prime, several):
    """Lists that times several lists, which have no common factor, add up to [1]."""
    left, shares = [], []
    for numbers in several:
        left, before, share = list_common_told(prime, left, numbers)
        shares = [list_times(prime, before, held) for held in shares] + [share]
    # Multiples of the first list are moved to the first share, so that all shares stay low.
    low, total = [], [1]
    for share, numbers in zip(shares[1:], several[1:]):
        rest = list_divided(prime, share, several[0])[1]
        low.append(rest)
        total = list_less(prime, total, list_times(prime, rest, numbers))
    return [list_divided(prime, total, several[0])[0]] + low


def coming(prime, row):
    """Tellings of the row and shares with which they come to one; None if there are none."""
    check_plain_row(prime, row)
    tellings = tellings_of(prime, row)
    if tellings is None:
        return None
    shares = shares_of(prime, [list_of(telling[0]) for _, telling in tellings])
    told, low = [], []
    for (mixing, telling), share in zip(tellings, shares):
        if share:
            told.append((row_within(mixing), row_within(telling)))
            low.append(within_powers(x_poly_of(share)))
    return told, tuple(low)
