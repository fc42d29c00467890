"""Resultants of lists in y (ylists.py) by the chain of subresultants, which divides all that can be divided."""

from rowsfilled.xlists import list_divided, list_power, list_scaled, list_times
from rowsfilled.ylists import y_less, y_scaled, y_shared, y_times


def pseudo_quotient(prime, one, other):
    """The quotient of one by other, one being multiplied by other's highest part once for each possible step."""
    quotient = [[] for _ in range(len(one) - len(other) + 1)]
    rest = one
    for k in reversed(range(len(quotient))):
        quotient = y_scaled(prime, other[-1], quotient)
        if len(rest) == len(other) + k:
            quotient[k] = rest[-1]
            taken = [[] for _ in range(k)] + y_scaled(prime, rest[-1], other)
            rest = y_less(prime, y_scaled(prime, other[-1], rest), taken)
        else:
            rest = y_scaled(prime, other[-1], rest)
    return quotient


def next_ones(prime, now, then, share):
    """What is left of each of now behind one quotient times each of then, divided by share."""
    quotient = pseudo_quotient(prime, now[0], then[0])
    raising = list_power(prime, then[0][-1], len(quotient))
    found = []
    for one, other in zip(now, then):
        rest = y_less(prime, y_scaled(prime, raising, one), y_times(prime, quotient, other))
        found.append(y_shared(prime, rest, share))
    return found


def chain_end(prime, now, then):
    """The last but one and the last of the chain, the divisor that belongs to them, and the sign.

    now and then are lists that begin with the two lists in y; behind them may stand others that take part in each
    step, so that sums of multiples of the first two stay told. The divisions go without a rest (Collins, Brown).
    """
    sign = 1
    if len(now[0]) < len(then[0]):
        now, then = then, now
        sign = -1 if len(now[0]) % 2 == 0 and len(then[0]) % 2 == 0 else 1
    lead, divisor = [1], [1]
    while len(then[0]) > 1:
        gap = len(now[0]) - len(then[0])
        if len(now[0]) % 2 == 0 and len(then[0]) % 2 == 0:
            sign = -sign
        share = list_times(prime, lead, list_power(prime, divisor, gap))
        now, then = then, next_ones(prime, now, then, share)
        lead = now[0][-1]
        if gap > 0:
            divisor = list_divided(prime, list_power(prime, lead, gap), list_power(prime, divisor, gap - 1))[0]
    return now, then, divisor, sign


def end_degree(now, then, divisor):
    """The degree of the resultant, the last of the chain not being []."""
    times = len(now[0]) - 1
    return times * (len(then[0][0]) - 1) - (times - 1) * (len(divisor) - 1)


def end_told(prime, now, then, divisor, sign):
    """The resultant and what belongs to it, as lists in y."""
    times = len(now[0]) - 1
    if not then[0] and times > 1:
        return [[] for _ in then]
    raising = list_scaled(prime, sign % prime, list_power(prime, then[0][0], times - 1) if then[0] else [1])
    share = list_power(prime, divisor, times - 1)
    return [y_shared(prime, y_scaled(prime, raising, rows), share) for rows in then]
