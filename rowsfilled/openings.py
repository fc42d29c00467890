"""Rows without powers that add up to more than 2 in a term, led to one in front and () elsewhere, unchecked."""

from rowsfilled.divisors import last_of
from rowsfilled.growth import left_in_x, multiples_of
from rowsfilled.stepping import Way, steps_back, steps_short, table_of_steps
from rowsfilled.terms import high_of, lessened
from rowsfilled.turns import made_plain, turned_about, turned_by


def tables_of_two(prime, row):
    """The opened and the filled table of a row of two entries, None if there are none."""
    told = multiples_of(prime, [(poly,) for poly in row], 1)
    if told is None:
        return None
    (a, b), (s, t) = row, told[0]
    return ((s, lessened(prime, (), b)), (t, a)), ((a, b), (lessened(prime, (), t), s))


def steps_by_plain(prime, row):
    """Steps that lead a row of three or four entries, one of them plain, to one and (); None if there are none.

    Lowered with y ahead of x, no more than three entries are left: of the leads y ** 2, x * y and a power of x. Is
    there no (), then x - e stands with y in the second one, e being some number. With x = e this second entry, or the
    third one, is a number that is not 0, as the first one has zeros there: so, modulo these two, x - e has an inverse,
    and y is a sum of powers of x. Hence the first entry can be led to a poly in x, and then it or the third one to ().
    """
    way = Way(prime, row)
    way.lower(last_of)
    if () not in way.row:
        highs = [high_of(poly, 1) for poly in way.row]
        top = highs.index(max(highs))
        others = [at for at in range(len(way.row)) if at != top]
        _, shares = left_in_x(prime, way.row[top], [way.row[at] for at in others])
        for at, share in zip(others, shares):
            way.go(at, top, share)
        way.lower(last_of)
    return steps_short(prime, way.steps) if way.end() else None


def opening_steps(prime, row):
    """Steps that lead a row of three or four entries to one and (), None if there are none."""
    if all([poly == () for poly in row]):
        return None
    turn, _ = made_plain(prime, row)
    steps = steps_by_plain(prime, [turned_by(prime, poly, turn) for poly in row])
    if steps is None or turn is None:
        return steps
    back = turned_about(turn)
    return [(i, j, turned_by(prime, poly, back)) for i, j, poly in steps]


def opening_tables(prime, row):
    """The pair of an opened and a filled table of the row, the one the inverse of the other; None if it has none."""
    if len(row) == 2:
        return tables_of_two(prime, row)
    steps = opening_steps(prime, row)
    if steps is None:
        return None
    return table_of_steps(prime, len(row), steps), table_of_steps(prime, len(row), steps_back(prime, steps))
