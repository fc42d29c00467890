"""A second, slow way to reckon with polys, to hold the program's answers against."""


def table_of(poly):
    return {(i, j): c for i, j, c in poly}


def poly_of(prime, table):
    return tuple((i, j, c % prime) for (i, j), c in sorted(table.items()) if c % prime)


def summed(prime, *polys):
    table = {}
    for poly in polys:
        for i, j, c in poly:
            table[i, j] = table.get((i, j), 0) + c
    return poly_of(prime, table)


def scaled(prime, number, poly):
    return poly_of(prime, {(i, j): number * c for i, j, c in poly})


def product(prime, *polys):
    found = {(0, 0): 1}
    for poly in polys:
        table = {}
        for (i, j), c in found.items():
            for k, m, d in poly:
                table[i + k, j + m] = table.get((i + k, j + m), 0) + c * d
        found = {key: c % prime for key, c in table.items()}
    return poly_of(prime, found)


def put_slowly(prime, poly, one, other):
    shares = []
    for i, j, c in poly:
        shares.append(product(prime, ((0, 0, c),), *([one] * i), *([other] * j)))
    return summed(prime, *shares)


def degree(poly):
    return max((i for i, _, _ in poly), default=-1)


def is_plain_slowly(poly):
    top = max((j for _, j, _ in poly), default=None)
    if top is None:
        return False
    return all(i == 0 for i, j, _ in poly if j == top)


def at(prime, poly, x, y):
    """The value of the poly with numbers put for the letters."""
    return sum(c * x ** i * y ** j for i, j, c in poly) % prime


def high_slowly(poly, letter):
    return max((term["xy".index(letter)] for term in poly), default=-1)


def part_slowly(poly, power):
    return tuple((i, 0, c) for i, j, c in poly if j == power)


def determinant_slowly(prime, rows):
    """By the sum over all ways to take an entry of each row, none twice of a column."""
    def below(k, columns):
        if k == len(rows):
            return ((0, 0, 1),)
        if columns not in known:
            shares = []
            for at, column in enumerate(columns):
                if rows[k][column]:
                    sign = ((0, 0, 1 if at % 2 == 0 else prime - 1),)
                    rest = below(k + 1, columns[:at] + columns[at + 1:])
                    shares.append(product(prime, sign, rows[k][column], rest))
            known[columns] = summed(prime, *shares)
        return known[columns]
    known = {}
    return below(0, tuple(range(len(rows))))


def sylvester(one, other):
    """Sylvester's table as point 20 writes it."""
    m, n = high_slowly(one, "y"), high_slowly(other, "y")
    rows = []
    for poly, many in ((one, n), (other, m)):
        for k in range(many - 1, -1, -1):
            rows.append([part_slowly(poly, power - k) for power in range(m + n - 1, -1, -1)])
    return rows, n


def resultant_slowly(prime, one, other):
    rows, n = sylvester(one, other)
    size = len(rows)
    u, v = [], []
    for at in range(size):
        minor = [row[:-1] for k, row in enumerate(rows) if k != at]
        cofactor = scaled(prime, (-1) ** (at + size - 1), determinant_slowly(prime, minor))
        k = n - 1 - at if at < n else size - 1 - at
        (u if at < n else v).append(product(prime, cofactor, ((0, k, 1),)))
    return determinant_slowly(prime, rows), summed(prime, *u), summed(prime, *v)


def rest_slowly(prime, modulus, poly):
    """The rest of each part by a monic x-poly, taken down one power after another."""
    top = degree(modulus)
    table = table_of(poly)
    for i in range(degree(poly), top - 1, -1):
        for j in [j for k, j in table if k == i]:
            number = table.pop((i, j)) % prime
            for k, _, c in modulus[:-1]:
                key = (i - top + k, j)
                table[key] = table.get(key, 0) - number * c
    return poly_of(prime, table)


def summed_products(prime, one, other):
    return summed(prime, *[product(prime, first, second) for first, second in zip(one, other)])


def small_field(prime, degree_of_modulus):
    """All reduced x-polys."""
    found = [()]
    for power in range(degree_of_modulus - 1, -1, -1):
        found = [tuple([(power, 0, c)] * (c > 0)) + held for held in found for c in range(prime)]
    return found


def diagonal(size, rank):
    """The table with one at the first so many places of the diagonal."""
    return tuple(tuple(((0, 0, 1),) if i == j and i < rank else () for j in range(size)) for i in range(size))


def unit_slowly(size):
    return diagonal(size, size)


def product_of_tables(prime, table, other):
    columns = list(zip(*other))
    return tuple(tuple(summed_products(prime, row, column) for column in columns) for row in table)


def form_table_slowly(prime, form):
    """The product that point 61 writes."""
    c, several = form
    inverse = [d for d in range(1, prime) if c * d % prime == 1][0]
    table = ((((0, 0, c),), ()), ((), ((0, 0, inverse),)))
    for poly in several:
        table = product_of_tables(prime, table, ((poly, ((0, 0, 1),)), (((0, 0, prime - 1),), ())))
    return table
