"""Polys reckoned with, but not judged: tuples of terms (i, j, c) whose powers may grow above every limit."""

ONE = ((0, 0, 1),)


def gathered(prime, sums):
    """The poly of a dict that gives a number to each pair of powers."""
    return tuple([(i, j, c % prime) for (i, j), c in sorted(sums.items()) if c % prime != 0])


def add_scaled(sums, poly, number):
    """Adds number times poly to the dict sums."""
    for i, j, c in poly:
        sums[(i, j)] = sums.get((i, j), 0) + c * number


def add_product(sums, one, other):
    """Adds one times other to the dict sums."""
    for i, j, c in one:
        for k, m, d in other:
            powers = (i + k, j + m)
            sums[powers] = sums.get(powers, 0) + c * d


def added(prime, one, other):
    sums = {}
    add_scaled(sums, one, 1)
    add_scaled(sums, other, 1)
    return gathered(prime, sums)


def lessened(prime, one, other):
    sums = {}
    add_scaled(sums, one, 1)
    add_scaled(sums, other, -1)
    return gathered(prime, sums)


def multiplied(prime, one, other):
    sums = {}
    add_product(sums, one, other)
    return gathered(prime, sums)


def high_of(poly, at):
    """The greatest power at this index of the terms (0 for x, 1 for y), -1 for ()."""
    return max([term[at] for term in poly], default=-1)


def part_of(poly, power):
    return tuple([(i, 0, c) for i, j, c in poly if j == power])


def lead_of(poly):
    return max(poly, key=lambda term: (term[0] + term[1], term[0]))


def has_no_letter(poly):
    """Whether the poly is a number among the polys."""
    return poly == () or poly[-1][:2] == (0, 0)


def exchanged(poly):
    """The poly with x and y exchanged."""
    return tuple(sorted([(j, i, c) for i, j, c in poly]))


def spread(prime, poly):
    """The poly to the power prime: modulo prime, sums and numbers keep their form when raised to it."""
    return tuple([(prime * i, prime * j, c) for i, j, c in poly])


def raised(prime, known, power):
    """The poly known[1] to a power; known keeps the powers that were reckoned before."""
    if power not in known:
        known[power] = multiplied(prime, raised(prime, known, power - 1), known[1])
    return known[power]


def split_powers(prime, poly):
    """A dict from pairs (a, b) below prime to polys q: poly is the sum of x to the a, y to the b, spread q."""
    shares = {}
    for i, j, c in poly:
        shares.setdefault((i % prime, j % prime), []).append((i // prime, j // prime, c))
    return {rests: tuple(terms) for rests, terms in shares.items()}


def put_powers(prime, poly, firsts, seconds):
    """poly with firsts[1] put for x and seconds[1] for y; both dicts are as raised takes them."""
    if high_of(poly, 0) <= 0 and high_of(poly, 1) <= 0:
        return poly
    sums = {}
    for (a, b), share in split_powers(prime, poly).items():
        outer = multiplied(prime, raised(prime, firsts, a), raised(prime, seconds, b))
        add_product(sums, outer, spread(prime, put_powers(prime, share, firsts, seconds)))
    return gathered(prime, sums)


def substituted(prime, poly, one, other):
    """poly with one put for x and other for y."""
    return put_powers(prime, poly, {0: ONE, 1: one}, {0: ONE, 1: other})
