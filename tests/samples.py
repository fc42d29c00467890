"""Values of every kind that point 3 of the document names, and polys to reckon with."""

import random

from rowsfilled.errors import BadText, FillError, TooMany
from tests.reference import product, summed

PRIMES = (2, 3, 5, 7)
ONE = ((0, 0, 1),)
X = ((1, 0, 1),)
Y = ((0, 1, 1),)


def nested(kind, levels):
    """A value of so many levels."""
    thing = 1
    for _ in range(levels):
        thing = {"list": [thing], "tuple": (thing,), "dict": {1: thing}}[kind]
    return thing


def nested_triple(levels):
    thing = (0, 0, 1)
    for _ in range(levels):
        thing = (thing, thing, thing) if levels < 6 else (0, thing, 1)
    return thing


WIDE = 10 ** 40

# None of these is a prime, a poly, a power, a letter, a turn or a list of polys.
STRANGE = [
    None, True, False, -1, 1000, 123456789, 1234567890, WIDE, -WIDE, "", "2", "xy", "swap", "slide",
    [True], [None], (True,), (None,), ("x",), ["x"], {"x": 1}, {1: True}, {True: ()}, {None: None},
    (1, 2), [[]], (({},),), nested("list", 80), nested("tuple", 80), nested("dict", 80),
    nested_triple(80), nested_triple(5), FillError("2"), TooMany(3), BadText([2]),
]

NO_PRIMES = STRANGE + [0, 1, 4, 6, 8, 9, 11, 49, -2, -7, (), [], {}, [2], (2,), {2: 2}, "7", b"2"]

NO_TERMS = [
    (0, 0, True), (True, 0, 1), (0, True, 1), (False, 0, 1), (0, False, 1), (0, 0, False), (0, 0, 0),
    (0, 0, -1), (0, 0, None), (None, 0, 1), (0, None, 1), ("0", 0, 1), (0, 0, "1"), (0, 0, [1]), (0, 0, (1,)),
    (-1, 0, 1), (0, -1, 1), (1000, 0, 1), (0, 1000, 1), (WIDE, 0, 1), (0, WIDE, 1), (0, 0, WIDE), (0, 0, -WIDE),
    (1234567890, 0, 1), (0, 0), (0, 0, 1, 1), (), [0, 0, 1], {0: 1, 1: 1, 2: 1}, "001", 1, True, None,
    nested("tuple", 78), nested("list", 78), nested("dict", 78),
    (nested("tuple", 77), nested("list", 77), nested("dict", 77)),
]


def no_polys(prime):
    """Values that are no polys of this prime."""
    found = list(STRANGE) + [0, 1, {}, [], [()], [(0, 0, 1)], (0, 0, 1), ([0, 0, 1],), (((0, 0, 1),),), {(0, 0): 1}]
    found += [(term,) for term in NO_TERMS]
    found += [((0, 0, 1), term) for term in NO_TERMS]
    found += [((0, 0, prime),), ((0, 0, prime + 1),), ((1, 1, 1), (2, 2, prime))]
    found += [
        ((1, 0, 1), (0, 0, 1)), ((0, 1, 1), (0, 0, 1)), ((1, 0, 1), (0, 5, 1)), ((0, 0, 1), (2, 0, 1), (1, 0, 1)),
        ((0, 0, 1), (0, 0, 1)), ((2, 3, 1), (2, 3, 1)), ((0, 0, 1), (1, 0, 1), (1, 0, prime - 1)),
    ]
    if prime > 2:
        found += [((0, 0, 1), (0, 0, 2)), ((0, 0, 2), (0, 0, 1))]
    return found


def no_x_polys(prime):
    """Values that are no polys of this prime without y, some of them polys."""
    return no_polys(prime) + [Y, ((0, 0, 1), (0, 1, 1)), ((0, 0, 1), (3, 999, prime - 1)), ((1, 1, 1),)]


def some_polys(prime, many, most_power, most_terms=6, letters=2, seed=1):
    """So many polys, the same at each call."""
    source = random.Random(f"{prime} {most_power} {most_terms} {letters} {seed}")
    found = [(), ONE, ((0, 0, prime - 1),), X]
    while len(found) < many:
        table = {}
        for _ in range(source.randint(1, most_terms)):
            powers = (source.randint(0, most_power), source.randint(0, most_power) if letters == 2 else 0)
            table[powers] = source.randint(1, prime - 1)
        found.append(tuple((i, j, c) for (i, j), c in sorted(table.items())))
    return found


def all_x_polys(prime, degree, monic=True):
    """All polys in x of exactly this degree, ascending in no told way."""
    found = [[]]
    for _ in range(degree):
        found = [row + [c] for row in found for c in range(prime)]
    tops = [1] if monic else list(range(1, prime))
    return [x_poly(row + [top]) for row in found for top in tops]


def x_poly(numbers):
    """The poly with numbers[k] at x to the k."""
    return tuple((k, 0, c) for k, c in enumerate(numbers) if c)


def prime_polys(prime, degree, many=2):
    """The first so many prime polys of this degree, in the sequence of all_x_polys."""
    from rowsfilled.onevar import is_prime_poly
    found = []
    numbers = 0
    while len(found) < many and numbers < prime ** degree:
        poly = x_poly([numbers // prime ** k % prime for k in range(degree)] + [1])
        if is_prime_poly(prime, poly):
            found.append(poly)
        numbers += 1
    return found


def no_moduli(prime):
    """Values that are no prime polys of degree 1 to 12, polys among them."""
    found = no_x_polys(prime) + [(), ONE, ((0, 0, prime - 1),), ((2, 0, 1),), ((0, 0, 1), (999, 0, 1)), ((12, 0, 1),)]
    found += [((1, 0, 1), (2, 0, 1)), ((0, 0, prime - 1), (2, 0, 1)), ((1, 0, 1), (13, 0, 1)), ((1, 0, 1), (1, 1, 1))]
    # x to the 13 with x and 1, or twice them, is a prime poly for some of the primes; all are too high.
    found += [((0, 0, 1), (1, 0, 1), (3, 0, 1), (4, 0, 1), (13, 0, 1)), ((0, 0, 1), (1, 0, 2 % prime or 1), (13, 0, 1))]
    for c in range(2, prime):
        found += [((1, 0, c),), ((0, 0, 1), (1, 0, c))]
    return found


def no_rows(prime, sizes=(2, 3, 4)):
    """Values that are no tuples of so many polys."""
    found = list(STRANGE) + [(), [], {}, 0, 1]
    for size in range(7):
        row = (ONE, X, Y, (), ONE, X)[:size]
        found += [list(row), dict(enumerate(row))]
        if size not in sizes:
            found.append(row)
    for size in sizes:
        deep = [nested(kind, 79) for kind in ("tuple", "list", "dict")]
        for bad in no_polys(prime)[::7] + [None, True, 1, []] + deep:
            for at in range(size):
                found.append((X,) * at + (bad,) + (ONE,) * (size - at - 1))
    return found


def drawn_poly(source, prime, most_power, most_terms):
    table = {}
    for _ in range(source.randint(0, most_terms)):
        table[source.randint(0, most_power), source.randint(0, most_power)] = source.randint(1, prime - 1)
    return tuple((i, j, c) for (i, j), c in sorted(table.items()))


def drawn_row(source, prime, size, most_power=3, most_terms=5):
    return tuple(drawn_poly(source, prime, most_power, most_terms) for _ in range(size))


def no_tables(prime, sizes=(2, 3, 4)):
    """Values that are no tables of so many rows."""
    found = list(STRANGE) + [(), [], {}, ((),), ((), ()), ((ONE,),), (ONE, X), (X, Y, ONE), ONE]
    for many in range(1, 6):
        for size in range(6):
            row = (ONE, X, Y, (), ONE)[:size]
            table = (row,) * many
            found += [list(table), tuple([list(row)] * many), dict(enumerate(table))]
            if many != size or many not in sizes:
                found.append(table)
    for size in sizes:
        row = (X, ONE, (), Y)[:size]
        no_rows_here = [row[:-1], row + (X,), list(row), (), None, True, "x", dict(enumerate(row)), nested("tuple", 79)]
        for bad_row in no_rows_here:
            for at in range(size):
                found.append((row,) * at + (bad_row,) + (row,) * (size - at - 1))
        deep = [nested(kind, 78) for kind in ("tuple", "list", "dict")]
        for bad in no_polys(prime)[::11] + [True, [], None] + deep:
            found.append((row,) * (size - 1) + (row[:-1] + (bad,),))
            found.append(((bad,) + row[1:],) + (row,) * (size - 1))
    return found


def no_grids(prime):
    """Values that are no grids."""
    found = list(STRANGE) + [(), [], {}, ((),), ((), ()), ((ONE,),), ((ONE,), (ONE,)), (ONE, X), (X, Y, ONE), ONE]
    for many in range(1, 6):
        for size in range(6):
            row = (ONE, X, Y, (), ONE)[:size]
            grid = (row,) * many
            found += [list(grid), tuple([list(row)] * many), dict(enumerate(grid))]
            if size not in (2, 3, 4) or many > size:
                found.append(grid)
            elif many > 1:
                found += [grid[:-1] + (row[:-1],), (row + (X,),) + grid[1:], grid[:-1] + (None,), grid[:-1] + (True,)]
    row = (X, ONE, ())
    for bad in no_polys(prime)[::5] + [True, [], None, nested("tuple", 78), nested("list", 78), nested("dict", 78)]:
        found += [((bad,) + row,), (row, row[:-1] + (bad,)), (row, row, (X, bad, Y)), ((bad, ONE), (ONE, X))]
    return found


def drawn_grid(source, prime, many, size, most_power=2, most_terms=3):
    return tuple(drawn_row(source, prime, size, most_power, most_terms) for _ in range(many))


LOW_POWERS = [(i, j) for i in range(3) for j in range(3 - i)]


def drawn_low_row(source, prime, size, most_terms=6):
    """A row without terms of i + j above 2; numbers and () stand in it now and then."""
    row = []
    for _ in range(size):
        powers = source.sample(LOW_POWERS, source.randint(0, most_terms))
        row.append(tuple((i, j, source.randint(1, prime - 1)) for i, j in sorted(powers)))
    return tuple(row)


def low_rows_to_one(source, prime, size, many):
    """Drawn low rows that come to 1, some of them the first rows of tables made by steps."""
    from rowsfilled.ones import ones
    found = []
    while len(found) < many:
        row = drawn_low_row(source, prime, size, source.choice((2, 3, 6)))
        if source.random() < 0.3:
            row = led_table(source, prime, size, 3)[0]
        if all(i + j <= 2 for poly in row for i, j, _ in poly) and ones(prime, row) is not None:
            found.append(row)
    return found


def led_table(source, prime, size, steps=4, most_power=1, most_terms=2):
    """A table of determinant one: the unit table with multiples of rows added to others."""
    table = [[ONE if i == j else () for j in range(size)] for i in range(size)]
    for _ in range(steps):
        one, other = source.sample(range(size), 2)
        more = drawn_poly(source, prime, most_power, most_terms)
        table[other] = [summed(prime, held, product(prime, more, poly)) for held, poly in zip(table[other], table[one])]
    return tuple(tuple(row) for row in table)


def no_strips(prime, shapes=((2, 3), (3, 4))):
    """Values that are no strips of these shapes (rows, entries)."""
    found = list(STRANGE) + [(), [], {}, ((),), ((), ()), ((ONE,),), (ONE, X), (X, Y, ONE), ONE]
    for many in range(1, 6):
        for size in range(6):
            row = (ONE, X, Y, (), ONE)[:size]
            strip = (row,) * many
            found += [list(strip), tuple([list(row)] * many), dict(enumerate(strip))]
            if (many, size) not in shapes:
                found.append(strip)
    for many, size in shapes:
        row = (X, ONE, (), Y)[:size]
        no_rows_here = [row[:-1], row + (X,), list(row), (), None, True, "x", dict(enumerate(row)), nested("tuple", 79)]
        for bad_row in no_rows_here:
            for at in range(many):
                found.append((row,) * at + (bad_row,) + (row,) * (many - at - 1))
        deep = [nested(kind, 78) for kind in ("tuple", "list", "dict")]
        for bad in no_polys(prime)[::11] + [True, [], None] + deep:
            found.append((row,) * (many - 1) + (row[:-1] + (bad,),))
            found.append(((bad,) + row[1:],) + (row,) * (many - 1))
    return found


NO_SIZES = STRANGE + [0, 1, 5, 6, -2, "3", (2,), [2], {2: 2}, b"2", WIDE]


def no_step(prime, size):
    """Values that are no steps of this size."""
    found = list(STRANGE) + [(), [], {}, (0, 1), (0, 1, ONE, ONE), [0, 1, ONE], {0: 0, 1: 1, 2: ONE}, ((0, 1), ONE)]
    found += [(k, k, X) for k in range(size)] + [(0, size, X), (size, 0, X), (size, size + 1, X), (-1, 0, X)]
    found += [(0, -1, X), (0, WIDE, X), "01x"]
    found += [(0, True, X), (True, 0, X), (False, 1, X), (1, False, X), ("0", 1, X), (0, None, X), (0, (1,), X)]
    found += [(0, 1, value) for value in no_polys(prime)]
    return found


def no_step_lists(prime, size):
    """Values that are no lists of steps of this size."""
    wrong = no_step(prime, size)
    found = [value for value in STRANGE if value != ()] + [{}, {0: (0, 1, X)}, (0, 1, X), [0, 1, X], [[0, 1, X]]]
    found += [[value] for value in wrong[::5]] + [((0, 1, X), value) for value in wrong[::7]]
    return found + [nested("list", 80), [nested("tuple", 79)], [(0, 1, nested("tuple", 78))]]


def drawn_steps(source, prime, size, many, most_power=2, most_terms=2, letters=2):
    found = []
    for _ in range(many):
        i, j = source.sample(range(size), 2)
        poly = drawn_poly(source, prime, most_power, most_terms)
        if letters == 1:
            poly = tuple(sorted({i: (i, 0, c) for i, _, c in poly}.values()))
        found.append((i, j, poly))
    return found


def is_number_poly(poly):
    return all(term[:2] == (0, 0) for term in poly)


def drawn_form(source, prime, many, letters, most_power=2, most_terms=3):
    """A form of so many polys; the first and the last one are numbers now and then, two are not both ()."""
    several = []
    while len(several) < many:
        poly = drawn_poly(source, prime, source.choice((0, most_power)), most_terms)
        if letters == 1:
            poly = tuple(sorted({i: (i, 0, c) for i, _, c in poly}.values()))
        if len(several) in (0, many - 1) or not is_number_poly(poly):
            several.append(poly)
    if several == [(), ()]:
        several = [ONE, ()]
    return source.randint(1, prime - 1), tuple(several)


def no_forms(prime, letters):
    """Values that are no forms in one letter, or in two."""
    number = ((0, 0, prime - 1),)
    found = list(STRANGE) + [(), [], {}, (1,), (1, (X,), ()), [1, (X,)], (1, [X]), (1, {0: X}), {0: 1, 1: (X,)}]
    found += [(c, (X,)) for c in [0, prime, -1, prime + 1, WIDE, True, False, None, "1", (1,), ONE, [1]]]
    found += [(1, ((), ())), (1, (X, (), X)), (1, (X, ONE, X)), (1, ((), number, ())), (1, (X, X, ONE, X)),
              (1, (X, ONE, X, X)), (1, ((), (), ())), (1, (X, (), X, X)), (1, None), (1, "x"), (1, 1), (1, X), (1, ONE)]
    found += [(1, (value,)) for value in no_polys(prime)] + [(1, (X, X, value)) for value in no_polys(prime)[::5]]
    found += [(1, (X, value, X)) for value in no_polys(prime)[::5]] + [(1, nested("tuple", 79))]
    if letters == 1:
        found += [(1, (Y,)), (1, (X, Y)), (1, (X, Y, X)), (1, (X, ((1, 1, 1),), X)), (1, (((0, 0, 1), (0, 1, 1)), X))]
    return found
