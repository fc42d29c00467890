"""Forms of tables of two rows, unchecked: a number c and polys q; E(q) is the table ((q, 1), (-1, 0)).

The table of a form has c and its inverse on the diagonal, times the tables E(q) of all its polys.
"""

from rowsfilled.checks import is_number_within, is_poly_of
from rowsfilled.tables import sum_of_products
from rowsfilled.terms import ONE, added, has_no_letter, lessened
from rowsfilled.xlists import inverse_number


def is_form_of(prime, thing):
    """Whether any value is a form in two letters."""
    if not isinstance(thing, tuple) or len(thing) != 2 or not is_number_within(thing[0], 1, prime - 1):
        return False
    several = thing[1]
    if not isinstance(several, tuple) or not all([is_poly_of(prime, poly) for poly in several]):
        return False
    return several != ((), ()) and not any([has_no_letter(poly) for poly in several[1:-1]])


def table_of_form(prime, form):
    c, several = form
    rows = (((0, 0, c),), ()), ((), ((0, 0, inverse_number(prime, c)),))
    minus = lessened(prime, (), ONE)
    for poly in several:
        rows = [(sum_of_products(prime, row, (poly, minus)), row[0]) for row in rows]
    return tuple(rows)


def scaled_by(prime, number, poly):
    return tuple([(i, j, number * c % prime) for i, j, c in poly])


def led_through(prime, number, several):
    """What several become if number and its inverse on the diagonal go from behind them to their front.

    The pair of the number in front and the polys: E(q), then c and 1 / c, is 1 / c and c, then E(c * c * q).
    """
    found = []
    for poly in reversed(several):
        found.append(scaled_by(prime, number * number, poly))
        number = inverse_number(prime, number)
    return number, found[::-1]


def with_one_more(prime, c, several, poly):
    """The pair (c, several) with E(poly) behind it, a number between two polys being taken out."""
    if len(several) < 2 or not has_no_letter(several[-1]):
        return c, several + [poly]
    before, number = several[-2], several[-1]
    if number == ():
        # E(p) E(0) E(q) is E(p + q) times -1.
        return -c % prime, several[:-2] + [added(prime, before, poly)]
    # E(p) E(k) E(q) is E(p - 1 / k), then k and 1 / k on the diagonal, then E(q - 1 / k).
    share = ((0, 0, inverse_number(prime, number[0][2])),)
    front, led = led_through(prime, number[0][2], several[:-2] + [lessened(prime, before, share)])
    return c * front % prime, led + [lessened(prime, poly, share)]


def form_of_steps(prime, steps):
    """The form of the table of these steps of size 2."""
    c, several = 1, []
    for i, _, poly in steps:
        # The table of a step is E(-p) E(0), or E(0) E(p), times -1.
        c = -c % prime
        for q in ((lessened(prime, (), poly), ()) if i == 0 else ((), poly)):
            c, several = with_one_more(prime, c, several, q)
    if several == [(), ()]:
        return -c % prime, ()
    return c, tuple(several)
