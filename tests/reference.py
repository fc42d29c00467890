"""A second, slow way to reckon with polys, to hold the program's answers against."""


def table_of(poly):
    return {(i, j): c for i, j, c in poly}


def poly_of(prime, table):
    return tuple((i, j, c % prime) for (i, j), c in sorted(table.items()) if c % prime)


def summed(prime, *polys):
    table = {}
    for poly in polys:
        for i, j, c in poly:
            table[i, j] = table.get((i, j), 0) + c
    return poly_of(prime, table)


def scaled(prime, number, poly):
    return poly_of(prime, {(i, j): number * c for i, j, c in poly})


def product(prime, *polys):
    found = {(0, 0): 1}
    for poly in polys:
        table = {}
        for (i, j), c in found.items():
            for k, m, d in poly:
                table[i + k, j + m] = table.get((i + k, j + m), 0) + c * d
        found = {key: c % prime for key, c in table.items()}
    return poly_of(prime, found)


def put_slowly(prime, poly, one, other):
    shares = []
    for i, j, c in poly:
        shares.append(product(prime, ((0, 0, c),), *([one] * i), *([other] * j)))
    return summed(prime, *shares)


def degree(poly):
    return max((i for i, _, _ in poly), default=-1)


def is_plain_slowly(poly):
    top = max((j for _, j, _ in poly), default=None)
    if top is None:
        return False
    return all(i == 0 for i, j, _ in poly if j == top)


def at(prime, poly, x, y):
    """The value of the poly with numbers put for the letters."""
    return sum(c * x ** i * y ** j for i, j, c in poly) % prime
