"""The minors of grids: their multiples that come to 1, or a spot at which the rows hang together."""

from rowsfilled.checks import check_prime, within_powers
from rowsfilled.growth import multiples_of
from rowsfilled.hanging import hung
from rowsfilled.shapes import check_grid, check_table, check_table_of, is_row_of
from rowsfilled.spots import is_spot_form, is_zero_there, rest_by_both, spot_of_all
from rowsfilled.tables import adjoint_of, columns_of, minors_of, row_within, sum_of_products, table_times, table_within
from rowsfilled.terms import high_of
from rowsfilled.turns import turned_by
from rowsfilled.xlists import inverse_number, x_poly_of
from rowsfilled.ylists import poly_of_y, y_list_of


def check_prime_and_grid(prime, grid):
    check_prime(prime)
    check_grid(prime, grid)


def grid_by(prime, grid, table):
    """The grid of the products of each row with the table."""
    check_prime_and_grid(prime, grid)
    check_table_of(prime, table, len(grid[0]))
    return table_within(table_times(prime, grid, table))


def adjoint(prime, table):
    """The table whose product with the table has the determinant on the diagonal, () elsewhere."""
    check_prime(prime)
    check_table(prime, table)
    return table_within(adjoint_of(prime, table))


def minors(prime, grid):
    """The determinants of all tables that as many columns as there are rows make."""
    check_prime_and_grid(prime, grid)
    return row_within(minors_of(prime, grid))


def multiples(prime, grid):
    """None, or a poly for each minor, such that the sum of the products is one."""
    check_prime_and_grid(prime, grid)
    if len(grid) == len(grid[0]):
        return inverse_told(prime, minors_of(prime, grid)[0])
    rows = multiples_of(prime, columns_of(grid), len(grid))
    # The product of the grid with these rows as columns is a unit table: so is the product of their minors.
    return None if rows is None else row_within(minors_of(prime, rows))


def inverse_told(prime, poly):
    """The tuple of the number that times poly is one, None if there is none."""
    if len(poly) != 1 or poly[0][:2] != (0, 0):
        return None
    return (((0, 0, inverse_number(prime, poly[0][2])),),)


def dependent(prime, grid):
    """None, or the pair of a spot and a number for each row, with which the rows add up to 0 there."""
    check_prime_and_grid(prime, grid)
    found = spot_of_all(prime, minors_of(prime, grid))
    if found is None:
        return None
    q, h = found
    rows = [[rest_by_both(prime, q, h, y_list_of(poly)) for poly in row] for row in grid]
    factor, numbers = hung(prime, q, h, rows)
    spot = None, within_powers(x_poly_of(q)), within_powers(poly_of_y(factor))
    return spot, row_within([poly_of_y(number) for number in numbers])


def are_numbers_at(prime, thing, size, spot):
    """Whether any value is a tuple of so many polys, not all (), of lesser powers than those of the spot."""
    if not is_row_of(prime, thing, size) or all([number == () for number in thing]):
        return False
    _, q, h = spot
    return all([high_of(number, 0) < high_of(q, 0) and high_of(number, 1) < high_of(h, 1) for number in thing])


def is_dependent(prime, grid, thing):
    """Whether any value is a pair as dependent tells it."""
    check_prime_and_grid(prime, grid)
    if not isinstance(thing, tuple) or len(thing) != 2 or not is_spot_form(prime, thing[0]):
        return False
    spot, numbers = thing
    if not are_numbers_at(prime, numbers, len(grid), spot):
        return False
    turn, q, h = spot
    turned_rows = [[turned_by(prime, poly, turn) for poly in row] for row in grid]
    sums = [sum_of_products(prime, column, numbers) for column in columns_of(turned_rows)]
    return all([is_zero_there(prime, (None, q, h), poly) for poly in sums])
