"""Tables of two rows in two letters: products of single steps exactly unless their first row is stuck."""

from rowsfilled.checks import check_prime
from rowsfilled.errors import BadForm, BadTable
from rowsfilled.filling import is_one_table
from rowsfilled.forms import form_of_steps, is_form_of, table_of_form
from rowsfilled.shapes import check_row_of
from rowsfilled.stepping import Way, lowering_of, steps_of_table, steps_within
from rowsfilled.tables import row_within, table_within
from rowsfilled.terms import lead_of


def check_pair(prime, pair):
    check_prime(prime)
    check_row_of(prime, pair, 2)


def check_whole_table(prime, table):
    check_prime(prime)
    if not is_one_table(prime, table, 2):
        raise BadTable("no table of two rows with the determinant 1")


def lowering(prime, pair):
    """The step of one term that takes the lead of an entry away by that of the other one, None if there is none."""
    check_pair(prime, pair)
    return lowering_of(prime, pair, lead_of)


def way_down(prime, pair):
    way = Way(prime, pair)
    way.lower(lead_of)
    return way


def lowered(prime, pair):
    """The pair of the lowerings that come one after another, and of what is left."""
    check_pair(prime, pair)
    way = way_down(prime, pair)
    return steps_within(way.steps), row_within(way.row)


def is_stuck(prime, pair):
    """Whether lowerings leave two entries that are not 0."""
    check_pair(prime, pair)
    return () not in way_down(prime, pair).row


def pair_steps(prime, table):
    """Steps whose table is the table, None if its first row is stuck."""
    check_whole_table(prime, table)
    steps = steps_of_table(prime, table, lead_of)
    return None if steps is None else steps_within(steps)


def pair_form_table(prime, form):
    """The table that the form in two letters tells."""
    check_prime(prime)
    if not is_form_of(prime, form):
        raise BadForm("no form in two letters")
    return table_within(table_of_form(prime, form))


def is_pair_form(prime, thing):
    """Whether any value is a form in two letters."""
    check_prime(prime)
    return is_form_of(prime, thing)


def pair_form(prime, table):
    """The form in two letters whose table the table is, None if its first row is stuck."""
    check_whole_table(prime, table)
    steps = steps_of_table(prime, table, lead_of)
    if steps is None:
        return None
    c, several = form_of_steps(prime, steps)
    return c, row_within(several)
