"""Rows of polys that hang together modulo a prime list q in x and a list h in y whose highest part is 1."""

from rowsfilled.moduli import rest_common_told, rest_divided, rest_times
from rowsfilled.ylists import y_less


def times_by_both(prime, q, h, one, other):
    return rest_divided(prime, q, rest_times(prime, q, one, other), h)[1]


def row_less(prime, q, h, row, number, other):
    """The row less number times the other row, item by item."""
    return [y_less(prime, held, times_by_both(prime, q, h, number, item)) for held, item in zip(row, other)]


def with_numbers(rows):
    """Each row, followed by the numbers that tell it: 1 for itself, 0 for the others."""
    places = range(len(rows))
    return [list(rows[k]) + [[[1]] if m == k else [] for m in places] for k in places]


def hung_or_factor(prime, q, h, rows):
    """A pair of a factor of h and numbers that let the rows add up to 0; None for these if there is a lesser factor.

    Each column with an item that has an inverse clears this column of all other rows. An item without an inverse,
    not 0, tells a lesser factor.
    """
    size = len(rows[0])
    left = with_numbers(rows)
    for column in range(size):
        places = [k for k, row in enumerate(left) if row[column]]
        if places:
            pivot = left[places[0]]
            factor, inverse, _ = rest_common_told(prime, q, pivot[column], h)
            if len(factor) > 1:
                return factor, None
            pivot = [times_by_both(prime, q, h, inverse, item) for item in pivot]
            others = [row for k, row in enumerate(left) if k != places[0]]
            left = [row_less(prime, q, h, row, row[column], pivot) for row in others]
    return h, left[0][size:]


def hung(prime, q, h, rows):
    """The pair (factor of h, numbers) for rows whose minors are 0 modulo q and h."""
    factor, numbers = hung_or_factor(prime, q, h, rows)
    while numbers is None:
        rows = [[rest_divided(prime, q, item, factor)[1] for item in row] for row in rows]
        factor, numbers = hung_or_factor(prime, q, factor, rows)
    return factor, numbers
