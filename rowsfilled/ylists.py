"""Polys as lists in y: at the index k stands the list (xlists.py) of the part for y to the k, the last one not []."""

from rowsfilled.terms import high_of
from rowsfilled.xlists import list_common_of, list_divided, list_less, list_plus, list_times


def y_list_of(poly):
    """The list in y of a poly."""
    rows = [[] for _ in range(high_of(poly, 1) + 1)]
    for i, j, c in poly:
        rows[j].extend([0] * (i - len(rows[j])))
        rows[j].append(c)
    return rows


def poly_of_y(rows):
    """The poly of a list in y."""
    return tuple(sorted([(i, j, c) for j, numbers in enumerate(rows) for i, c in enumerate(numbers) if c != 0]))


def y_trimmed(rows):
    """The list in y without the empty lists at its end."""
    size = len(rows)
    while size > 0 and not rows[size - 1]:
        size -= 1
    return rows[:size]


def y_plus(prime, one, other):
    size = min(len(one), len(other))
    sums = [list_plus(prime, one[k], other[k]) for k in range(size)]
    return y_trimmed(sums + one[size:] + other[size:])


def y_less(prime, one, other):
    rows = one + [[] for _ in range(len(other) - len(one))]
    for k, numbers in enumerate(other):
        if numbers:
            rows[k] = list_less(prime, rows[k], numbers)
    return y_trimmed(rows)


def y_times(prime, one, other):
    if not one or not other:
        return []
    rows = [[] for _ in range(len(one) + len(other) - 1)]
    for k, first in enumerate(one):
        if first:
            for m, second in enumerate(other):
                rows[k + m] = list_plus(prime, rows[k + m], list_times(prime, first, second))
    return rows


def y_scaled(prime, numbers, rows):
    """The list in y times a list in x that is not empty."""
    return [list_times(prime, numbers, row) for row in rows]


def y_shared(prime, rows, numbers):
    """The list in y divided by a list in x that divides all its parts."""
    if numbers == [1]:
        return rows
    return [list_divided(prime, row, numbers)[0] for row in rows]


def content(prime, rows):
    """The monic greatest common factor of all parts."""
    return list_common_of(prime, rows)


def primitive(prime, rows):
    """The list in y divided by its content, [] for []."""
    return y_shared(prime, rows, content(prime, rows))


def x_quotient(prime, rows, numbers):
    """The list in y that times a list in x, which is not empty, is rows; None if there is none."""
    pairs = [list_divided(prime, row, numbers) for row in rows]
    if any([rest for _, rest in pairs]):
        return None
    return [quotient for quotient, _ in pairs]


def y_quotient(prime, one, other):
    """The list in y that times other, which is not empty, is one; None if there is none."""
    if len(other) == 1:
        return x_quotient(prime, one, other[0])
    quotient = [[] for _ in range(len(one) - len(other) + 1)]
    rest = one
    while len(rest) >= len(other):
        numbers, left = list_divided(prime, rest[-1], other[-1])
        if left:
            return None
        gap = len(rest) - len(other)
        quotient[gap] = numbers
        rest = y_less(prime, rest, [[] for _ in range(gap)] + y_scaled(prime, numbers, other))
    return None if rest else quotient
