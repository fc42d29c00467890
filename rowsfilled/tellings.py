"""Tellings, mixings and the tables made of them, unchecked; powers may grow above every limit."""

from rowsfilled.checks import is_x_poly_of
from rowsfilled.divisors import exact_quotient
from rowsfilled.shapes import is_row_of
from rowsfilled.tables import sum_of_products, table_times, unit_table
from rowsfilled.terms import add_product, add_scaled, gathered, lessened, multiplied, substituted

X = ((1, 0, 1),)


def placed_by(prime, poly, place):
    """What comes of the poly if place is put for y."""
    return substituted(prime, poly, X, place)


def is_multiple(prime, poly, other):
    """Whether the poly is a multiple of other, which is not ()."""
    return exact_quotient(prime, poly, other) is not None


def is_telling_of(prime, one, other, thing):
    """Whether any value is a telling of the two polys."""
    if not is_row_of(prime, thing, 3):
        return False
    r, u, v = thing
    return r != () and is_x_poly_of(prime, r) and sum_of_products(prime, (u, v), (one, other)) == r


def mixed_of(prime, row, mixing):
    """The second entry of the row, plus each mixing times its entry."""
    sums = {}
    add_scaled(sums, row[1], 1)
    for share, poly in zip(mixing, row[2:]):
        add_product(sums, share, poly)
    return gathered(prime, sums)


def crossed_by(prime, one, other, third, fourth, divisor):
    """One times other less third times fourth, divided by what divides it."""
    difference = lessened(prime, multiplied(prime, one, other), multiplied(prime, third, fourth))
    return exact_quotient(prime, difference, divisor)


def moving_table(prime, one, other, telling, place, goal):
    """The table of two rows that leads one and other at the place to the same at the goal."""
    r, u, v = telling
    minus_v = lessened(prime, (), v)
    a, b, c, d = [placed_by(prime, poly, place) for poly in (one, other, minus_v, u)]
    e, f, g, h = [placed_by(prime, poly, goal) for poly in (one, other, minus_v, u)]
    first = (crossed_by(prime, d, e, b, g, r), crossed_by(prime, d, f, b, h, r))
    second = (crossed_by(prime, a, g, c, e, r), crossed_by(prime, a, h, c, f, r))
    return first, second


def with_entries(table, entries):
    """The table with other polys at some places (i, j), told by a dict."""
    rows = range(len(table))
    return tuple([tuple([entries.get((i, j), table[i][j]) for j in rows]) for i in rows])


def mixing_table(unit, mixing):
    """The unit table but for the polys of the mixing in the column 1."""
    return with_entries(unit, {(at + 2, 1): share for at, share in enumerate(mixing)})


def rest_table(prime, unit, row, telling, place, goal):
    """The unit table but for what leads the entries behind the first two to the goal, in the rows 0 and 1."""
    r, u, v = telling
    u_there, v_there = placed_by(prime, u, goal), placed_by(prime, v, goal)
    entries = {}
    for at in range(2, len(row)):
        change = lessened(prime, placed_by(prime, row[at], goal), placed_by(prime, row[at], place))
        share = exact_quotient(prime, change, r)
        entries[(0, at)] = multiplied(prime, share, u_there)
        entries[(1, at)] = multiplied(prime, share, v_there)
    return with_entries(unit, entries)


def row_moving_table(prime, row, mixing, telling, place, goal):
    """The product of four tables: mixing, moving two, moving the rest, and no mixing any more."""
    unit = unit_table(len(row))
    here = [placed_by(prime, share, place) for share in mixing]
    there = [lessened(prime, (), placed_by(prime, share, goal)) for share in mixing]
    two = moving_table(prime, row[0], mixed_of(prime, row, mixing), telling, place, goal)
    moving_two = with_entries(unit, {(i, j): two[i][j] for i in (0, 1) for j in (0, 1)})
    moving_rest = rest_table(prime, unit, row, telling, place, goal)
    found = table_times(prime, mixing_table(unit, here), moving_two)
    return table_times(prime, table_times(prime, found, moving_rest), mixing_table(unit, there))
