"""Strips led to one another, and folds: tables that times themselves are themselves."""

from rowsfilled.checks import check_prime
from rowsfilled.divisors import exact_quotient, factor_of_all
from rowsfilled.errors import BadFold, BadStrip
from rowsfilled.openings import opening_tables
from rowsfilled.several import check_prime_and_strip, crossing_of, goals_found, last_told
from rowsfilled.shapes import check_low, is_rows_of
from rowsfilled.splitting import null_mixes
from rowsfilled.tables import adjoint_of, columns_of, signed, table_times, table_within, unit_table
from rowsfilled.terms import lessened


def led_strip(prime, one, other):
    """A table with the determinant one, by which the strip one is the other one."""
    check_prime_and_strip(prime, one)
    told = goals_found(prime, one)
    if not is_rows_of(prime, other, len(one), len(one[0])):
        raise BadStrip("no strip of as many rows")
    last = last_told(prime, other, goals_found(prime, other))
    # The rows told, and the crossing with its sign, are the columns of the inverse of one and its last row.
    back = columns_of(tuple(told) + (tuple([signed(prime, len(one), poly) for poly in crossing_of(prime, one)]),))
    return table_within(table_times(prime, back, tuple(other) + (last,)))


def is_fold_of(prime, thing):
    if not any([is_rows_of(prime, thing, size, size) for size in (2, 3)]):
        return False
    return table_times(prime, thing, thing) == thing


def check_fold(prime, fold):
    if not is_fold_of(prime, fold):
        raise BadFold("no table of two or three rows that times itself is itself")


def check_low_fold(fold):
    if len(fold) == 3:
        for row in fold:
            check_low(row)


def is_fold(prime, thing):
    """Whether any value is a fold."""
    check_prime(prime)
    return is_fold_of(prime, thing)


def rank_told(prime, fold):
    rows = [[poly[0][2] if poly and poly[0][:2] == (0, 0) else 0 for poly in row] for row in fold]
    return len(fold) - len(null_mixes(prime, rows))


def rank_of(prime, fold):
    """How many rows of the fold, with 0 for x and y, do not hang together over the prime."""
    check_prime(prime)
    check_fold(prime, fold)
    return rank_told(prime, fold)


def column_and_row(prime, fold):
    """The pair of a column and a row whose product is a fold of rank 1."""
    first = [held for held in fold if held != ((),) * len(fold)][0]
    shared = factor_of_all(prime, first)
    row = tuple([exact_quotient(prime, poly, shared) for poly in first])
    at = [k for k, poly in enumerate(row) if poly != ()][0]
    return tuple([exact_quotient(prime, held[at], row[at]) for held in fold]), row


def straight_columns(prime, fold):
    """The column of a fold of rank 1, and columns that make a table of determinant 1 with it and are led to ()."""
    column, row = column_and_row(prime, fold)
    if len(fold) == 2:
        # Of any powers: nothing has to be searched for.
        return [column, (lessened(prime, (), row[1]), row[0])]
    opened, _ = opening_tables(prime, row)
    # The row adds up to one with the column as with the first column of the opened table: the determinant stays.
    return [column] + list(columns_of(opened)[1:])


def rest_of_unit(prime, fold):
    """The unit table less the fold."""
    rows = []
    for one, held in zip(unit_table(len(fold)), fold):
        rows.append(tuple([lessened(prime, first, second) for first, second in zip(one, held)]))
    return tuple(rows)


def straightening(prime, fold):
    """The table of straightened, unchecked."""
    rank = rank_told(prime, fold)
    if rank in (0, len(fold)):
        return unit_table(len(fold))
    if rank == 1:
        return columns_of(straight_columns(prime, fold))
    columns = straight_columns(prime, rest_of_unit(prime, fold))
    # Of three columns the first one may be put last without a change of the determinant.
    return columns_of(columns[1:] + columns[:1])


def straightened(prime, fold):
    """A table with the determinant one that leads the fold to the one with one at the first places of the diagonal."""
    check_prime(prime)
    check_fold(prime, fold)
    check_low_fold(fold)
    return table_within(straightening(prime, fold))


def led_fold(prime, one, other):
    """A table with the determinant one whose product with other is the product of one and it; None if none is."""
    check_prime(prime)
    check_fold(prime, one)
    check_fold(prime, other)
    if len(one) != len(other):
        raise BadFold("a fold of another number of rows")
    check_low_fold(one)
    check_low_fold(other)
    if rank_told(prime, one) != rank_told(prime, other):
        return None
    return table_within(table_times(prime, straightening(prime, one), adjoint_of(prime, straightening(prime, other))))
