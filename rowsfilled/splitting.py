"""Monic lists (xlists.py) of degree 1 or more split into prime ones, by Berlekamp's way."""

from rowsfilled.xlists import inverse_number, list_common, list_divided, list_less, list_slope


def padded(numbers, size):
    return numbers + [0] * (size - len(numbers))


def moves_of_powers(prime, numbers):
    """For each k below the degree: what x to the (prime * k), less x to the k, leaves by the list, padded."""
    size = len(numbers) - 1
    rows = []
    power = [1]
    for k in range(size):
        rest = list_divided(prime, power, numbers)[1]
        rows.append(padded(list_less(prime, rest, [0] * k + [1]), size))
        power = [0] * prime + rest
    return rows


def row_less(prime, row, number, other):
    return [(c - number * d) % prime for c, d in zip(row, other)]


def null_mixes(prime, rows):
    """Lists of numbers, a basis of those for which the rows, each times its number, add up to 0."""
    pivots = []
    found = []
    for k in range(len(rows)):
        row = rows[k]
        mix = [1 if m == k else 0 for m in range(len(rows))]
        for at, base, base_mix in pivots:
            number = row[at]
            row = row_less(prime, row, number, base)
            mix = row_less(prime, mix, number, base_mix)
        places = [place for place, c in enumerate(row) if c != 0]
        if not places:
            found.append(mix)
        else:
            inverse = inverse_number(prime, row[places[0]])
            row = [c * inverse % prime for c in row]
            mix = [c * inverse % prime for c in mix]
            pivots.append((places[0], row, mix))
    return found


def pieces_by(prime, numbers, mix):
    """The common factors of the list with mix less each number, but for 1."""
    found = []
    for number in range(prime):
        piece = list_common(prime, numbers, list_less(prime, mix, [number] if number else []))
        if len(piece) > 1:
            found.append(piece)
    return found


def prime_powers(prime, numbers):
    """Powers of unlike prime lists whose product is the list.

    A mix that its own power of prime leaves by the list is like one number modulo each of these powers,
    and for any two of them some mix of the basis is like two different numbers.
    """
    parts = [numbers]
    for mix in null_mixes(prime, moves_of_powers(prime, numbers)):
        parts = [piece for held in parts for piece in pieces_by(prime, held, mix)]
    return parts


def root_told(prime, numbers):
    """The pair (root, how often) for a power of one prime list."""
    slope = list_slope(prime, numbers)
    if not slope:
        # Only powers of x that prime divides stand here: the list is another one to the power prime.
        root, often = root_told(prime, numbers[::prime])
        return root, often * prime
    root = list_divided(prime, numbers, list_common(prime, numbers, slope))[0]
    return root, (len(numbers) - 1) // (len(root) - 1)


def split_list(prime, numbers):
    """The pairs (root, how often) of all unlike prime lists that divide the list."""
    return [root_told(prime, held) for held in prime_powers(prime, numbers)]
