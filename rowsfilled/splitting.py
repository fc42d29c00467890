"""Monic lists (xlists.py) of degree 1 or more split into prime ones, by Berlekamp's way."""

from rowsfilled.xlists import inverse_number, list_common, list_divided, list_less, list_slope


def padded(numbers, size):
    return numbers + [0] * (size - len(numbers))


def moves_of_powers(prime, numbers):
    """For each k below the degree: what x to the (prime * k), less x to the k, leaves by the list, padded."""
    size = len(numbers) - 1
    rows = []
    power = [1]
    for k in range(size):
        rest = list_divided(prime, power, numbers)[1]
        rows.append(padded(list_less(prime, rest, [0] * k + [1]), size))
        power = [0] * prime + rest
    return rows


def row_less(prime, row, number, other):
    return [(c - number * d) % prime for c, d in zip(row, other)]


def null_mixes(prime, rows):
    """Lists of numbers, a basis of those for which the rows, each times its number, add up to 0."""
    pivots = []
    found = []
    for k in range(len(rows)):
        row = rows[k]
        mix = [1 if m == k else 0 for m in range(len(rows))]
        for at, base, base_mix in pivots:
            number = row[at]
            row = row_less(prime, row, number, base)
            mix = row_less(prime, mix, number, base_mix)
        places = [place for place, c in enumerate(row) if c != 0]
        if not places:
            found.append(mix)
        else:
            inverse = inverse_number(prime, row[places[0]])
            row = [c * inverse % prime for c in row]
            mix = [c * inverse % prime for c in mix]
            pivots.append((places[0], row, mix))
    return found


def pieces_by(prime, numbers, mix):
    """The common factors of the list with mix less each number, but for 1."""
    found = []
    for number in range(prime):
        piece = list_common(prime, numbers, list_less(prime, mix, [number] if number else []))
        if len(piece) > 1:
            found.append(piece)
    return found


def prime_parts(prime, numbers):
    """The prime lists whose product the list is, each of them once.

    A mix that its own power of prime leaves by the list is like one number modulo each of them, and for any two of
    them some mix of the basis is like two different numbers.
    """
    parts = [numbers]
    for mix in null_mixes(prime, moves_of_powers(prime, numbers)):
        parts = [piece for held in parts for piece in pieces_by(prime, held, mix)]
    return parts


def simple_parts(prime, numbers):
    """Pairs (part, how often): the list is the product of the parts, each so many times, no prime twice in them."""
    found = []
    rest = list_common(prime, numbers, list_slope(prime, numbers))
    left = list_divided(prime, numbers, rest)[0]
    often = 1
    while len(left) > 1:
        again = list_common(prime, left, rest)
        part = list_divided(prime, left, again)[0]
        if len(part) > 1:
            found.append((part, often))
        left, rest, often = again, list_divided(prime, rest, again)[0], often + 1
    if len(rest) > 1:
        # Only powers of x that prime divides stand in the rest: it is another list to the power prime.
        found.extend([(part, prime * times) for part, times in simple_parts(prime, rest[::prime])])
    return found


def split_list(prime, numbers):
    """The pairs (root, how often) of all unlike prime lists that divide the list."""
    found = []
    for part, often in simple_parts(prime, numbers):
        found.extend([(root, often) for root in prime_parts(prime, part)])
    return found


def has_root(prime, numbers):
    """Whether the list is 0 with some number put for x."""
    for place in range(prime):
        value = 0
        for c in reversed(numbers):
            value = (value * place + c) % prime
        if value == 0:
            return True
    return False


def is_prime_list(prime, numbers):
    if len(numbers) == 2:
        return True
    if has_root(prime, numbers) or list_common(prime, numbers, list_slope(prime, numbers)) != [1]:
        return False
    return len(null_mixes(prime, moves_of_powers(prime, numbers))) == 1


def counted_on(prime, numbers):
    """The monic list behind this one: they are counted up, the first number fastest."""
    found = list(numbers)
    for k in range(len(numbers) - 1):
        if found[k] < prime - 1:
            found[k] += 1
            return found
        found[k] = 0
    return found[:-1] + [0, 1]


def next_prime(prime, numbers):
    """The first prime list behind a monic list."""
    found = counted_on(prime, numbers)
    while not is_prime_list(prime, found):
        found = counted_on(prime, found)
    return found
