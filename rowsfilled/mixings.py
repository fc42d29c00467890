"""Sums of lists in y (ylists.py) that have nothing in common with a first one, over a field of lists in x.

The field is told by its modulus, a prime list in x; [] stands for the field of all quotients.
"""

from rowsfilled.images import y_common
from rowsfilled.moduli import rest_common, rest_divided, y_rest
from rowsfilled.ylists import primitive, y_plus, y_quotient, y_times


def over_field(prime, modulus, rows):
    return y_rest(prime, modulus, rows) if modulus else rows


def common_over(prime, modulus, one, other):
    if modulus:
        return rest_common(prime, modulus, one, other)
    return y_common(prime, one, other)


def quotient_over(prime, modulus, one, other):
    """one divided by other, which divides it; over the quotients both are primitive."""
    if modulus:
        return rest_divided(prime, modulus, one, other)[0]
    return y_quotient(prime, one, other)


def apart_from(prime, modulus, rows, other):
    """What is left of the list in y, not [], without all that it has in common with other."""
    left = rows if modulus else primitive(prime, rows)
    shared = common_over(prime, modulus, left, other)
    while len(shared) > 1:
        left = quotient_over(prime, modulus, left, shared)
        shared = common_over(prime, modulus, left, other)
    return left


def fits(prime, modulus, first, mixed, shared):
    """Whether first and mixed have nothing in common that is not in shared."""
    common = common_over(prime, modulus, first, mixed)
    return len(apart_from(prime, modulus, common, shared)) == 1


def low_ones(prime):
    """The lists in y of all numbers, then those with y, then those with x."""
    found = []
    for power_x in range(prime):
        for power_y in range(prime):
            for number in range(prime):
                head = [number, power_x] if power_x else [number] if number else []
                found.append([head, [power_y]] if power_y else [head] if head else [])
    return found


def share_for(prime, modulus, first, mixed, other):
    """What times other may be added to mixed so that first shares nothing with the sum but what all three share."""
    shared = common_over(prime, modulus, common_over(prime, modulus, first, mixed), other)
    for share in low_ones(prime):
        more = over_field(prime, modulus, y_plus(prime, mixed, y_times(prime, share, other)))
        if fits(prime, modulus, first, more, shared):
            return share
    # What divides first divides just one of mixed and this, so it does not divide the sum unless other has it, too.
    return apart_from(prime, modulus, first, mixed)


def mixing_over(prime, modulus, several):
    """The lists in y that, times those from the index 2 on, are added to the second of several lists in y.

    None if the first one, which is not [] over the field, has something with y in common with all others.
    """
    first, mixed = [over_field(prime, modulus, rows) for rows in several[:2]]
    shares = []
    for rows in several[2:]:
        other = over_field(prime, modulus, rows)
        share = share_for(prime, modulus, first, mixed, other)
        shares.append(share)
        mixed = over_field(prime, modulus, y_plus(prime, mixed, y_times(prime, share, other)))
    return shares if len(common_over(prime, modulus, first, mixed)) == 1 else None
