"""Tables of determinant 1 of polys in x alone: products of single steps, and of two rows by just one form."""

from rowsfilled.checks import check_prime, is_x_poly_of
from rowsfilled.errors import BadForm, BadRow, BadTable
from rowsfilled.forms import form_of_steps, is_form_of, table_of_form
from rowsfilled.shapes import SIZES, are_steps_of, check_size, is_row_of, is_rows_of
from rowsfilled.stepping import steps_of_table, steps_to_one, steps_within, table_of_steps
from rowsfilled.tables import determinant_of, row_within, table_within
from rowsfilled.terms import ONE


def highest_term(poly):
    """The term of a poly in x that leads it."""
    return poly[-1]


def are_x_polys(prime, polys):
    return all([is_x_poly_of(prime, poly) for poly in polys])


def check_x_table(prime, size, table):
    if not is_rows_of(prime, table, size, size) or not all([are_x_polys(prime, row) for row in table]):
        raise BadTable("no table of this size of polys in x")
    if determinant_of(prime, table) != ONE:
        raise BadTable("a table whose determinant is not 1")


def x_steps(prime, size, table):
    """Steps of polys in x whose table is the table."""
    check_size(prime, size)
    check_x_table(prime, size, table)
    return steps_within(steps_of_table(prime, table, highest_term))


def is_steps_of(prime, size, table, thing):
    """Whether any value is a list of steps whose table is the table."""
    check_size(prime, size)
    if not is_rows_of(prime, table, size, size):
        raise BadTable("no table of this size")
    return are_steps_of(prime, size, thing) and table_of_steps(prime, size, thing) == table


def x_row_steps(prime, row):
    """Steps of polys in x that lead the row to 1 in front and 0 elsewhere; None if there are none."""
    check_prime(prime)
    if not any([is_row_of(prime, row, size) for size in SIZES]) or not are_x_polys(prime, row):
        raise BadRow("no tuple of two to four polys in x")
    steps = steps_to_one(prime, row, highest_term)
    return None if steps is None else steps_within(steps)


def is_x_form(prime, thing):
    return is_form_of(prime, thing) and are_x_polys(prime, thing[1])


def form_table(prime, form):
    """The table of two rows that the form tells."""
    check_prime(prime)
    if not is_x_form(prime, form):
        raise BadForm("no form of polys in x")
    return table_within(table_of_form(prime, form))


def x_form(prime, table):
    """The form whose table a table of two rows is."""
    check_prime(prime)
    check_x_table(prime, 2, table)
    c, several = form_of_steps(prime, steps_of_table(prime, table, highest_term))
    return c, row_within(several)


def is_form(prime, thing):
    """Whether any value is a form of polys in x."""
    check_prime(prime)
    return is_x_form(prime, thing)
