"""Polys in x alone as lists of numbers, the one at the index k standing with x to the k, the last one not 0."""


def list_of(poly):
    """The list of an x-poly."""
    if poly == ():
        return []
    numbers = [0] * (poly[-1][0] + 1)
    for i, _, c in poly:
        numbers[i] = c
    return numbers


def x_poly_of(numbers):
    """The x-poly of a list."""
    return tuple([(i, 0, c) for i, c in enumerate(numbers) if c != 0])


def trimmed(numbers):
    """The list without the zeros at its end."""
    size = len(numbers)
    while size > 0 and numbers[size - 1] == 0:
        size -= 1
    return numbers[:size]


def inverse_number(prime, number):
    """The number from 1 to prime - 1 that times number is 1."""
    for inverse in range(1, prime):
        if inverse * number % prime == 1:
            return inverse
    return None


def list_less(prime, one, other):
    size = max(len(one), len(other))
    numbers = one + [0] * (size - len(one))
    for k, c in enumerate(other):
        numbers[k] = (numbers[k] - c) % prime
    return trimmed(numbers)


def list_plus(prime, one, other):
    if len(one) < len(other):
        one, other = other, one
    numbers = list(one)
    for k, c in enumerate(other):
        numbers[k] = (numbers[k] + c) % prime
    return trimmed(numbers)


def list_times(prime, one, other):
    if not one or not other:
        return []
    if len(one) == 1:
        return list_scaled(prime, one[0], other) if one[0] != 1 else other
    numbers = [0] * (len(one) + len(other) - 1)
    for k, c in enumerate(one):
        # Polys of high powers often have few terms.
        if c != 0:
            for m, d in enumerate(other):
                numbers[k + m] += c * d
    return [number % prime for number in numbers]


def list_scaled(prime, number, numbers):
    """The list times a number that is not 0."""
    return [number * c % prime for c in numbers]


def list_power(prime, numbers, power):
    found = [1]
    for _ in range(power):
        found = list_times(prime, found, numbers)
    return found


def list_monic(prime, numbers):
    """The list times a number, the last one being 1; it is not empty."""
    return list_scaled(prime, inverse_number(prime, numbers[-1]), numbers)


def list_divided(prime, one, other):
    """The pair (quotient, rest) of one by other, which is not empty."""
    inverse = inverse_number(prime, other[-1])
    rest = list(one)
    quotient = [0] * max(len(one) - len(other) + 1, 0)
    for k in reversed(range(len(quotient))):
        number = rest[k + len(other) - 1] * inverse % prime
        quotient[k] = number
        if number != 0:
            for m, c in enumerate(other):
                rest[k + m] = (rest[k + m] - number * c) % prime
    return quotient, trimmed(rest)


def list_common(prime, one, other):
    """The monic greatest common factor, [] for two empty lists."""
    while other:
        one, other = other, list_divided(prime, one, other)[1]
    return list_monic(prime, one) if one else []


def list_common_of(prime, several):
    """The monic greatest common factor of all lists, [] if all are empty."""
    found = []
    for numbers in several:
        if found != [1]:
            found = list_common(prime, found, numbers)
    return found


def list_common_told(prime, one, other):
    """The triple (g, s, t): g as of list_common, and s times one plus t times other is g."""
    now, then = (one, [1], []), (other, [], [1])
    while then[0]:
        quotient, rest = list_divided(prime, now[0], then[0])
        first = list_less(prime, now[1], list_times(prime, quotient, then[1]))
        second = list_less(prime, now[2], list_times(prime, quotient, then[2]))
        now, then = then, (rest, first, second)
    if not now[0]:
        return [], [], []
    inverse = inverse_number(prime, now[0][-1])
    g, s, t = [list_scaled(prime, inverse, numbers) for numbers in now]
    return g, s, t


def list_slope(prime, numbers):
    """The derivative of the list."""
    return trimmed([k * c % prime for k, c in enumerate(numbers)][1:])
