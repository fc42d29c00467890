"""Single steps and rows led by them, unchecked; powers may grow above every limit.

A step (i, j, poly) adds poly times the entry i of a row to its entry j.
"""

from rowsfilled.checks import within_powers
from rowsfilled.growth import multiples_of
from rowsfilled.tables import unit_table
from rowsfilled.terms import ONE, add_product, add_scaled, added, gathered, lessened
from rowsfilled.xlists import inverse_number


def entry_behind(prime, row, step):
    """The entry j of the row behind the step."""
    i, j, poly = step
    sums = {}
    add_scaled(sums, row[j], 1)
    add_product(sums, row[i], poly)
    return gathered(prime, sums)


def row_by_steps(prime, row, steps):
    found = list(row)
    for step in steps:
        found[step[1]] = entry_behind(prime, found, step)
    return tuple(found)


def table_of_steps(prime, size, steps):
    """The product of the tables of all steps, from the first to the last one."""
    return tuple([row_by_steps(prime, row, steps) for row in unit_table(size)])


def steps_back(prime, steps):
    """The steps that undo these."""
    return [(i, j, lessened(prime, (), poly)) for i, j, poly in reversed(steps)]


def steps_short(prime, steps):
    """The steps without those of (), neighbours with the same i and the same j made one."""
    found = []
    for i, j, poly in steps:
        if found and found[-1][:2] == (i, j):
            poly = added(prime, found.pop()[2], poly)
        if poly != ():
            found.append((i, j, poly))
    return found


def steps_within(steps):
    return [(i, j, within_powers(poly)) for i, j, poly in steps]


def lowering_of(prime, row, lead):
    """The first step of one term that takes the lead of an entry away; None if no lead divides another one."""
    leads = [lead(poly) if poly else None for poly in row]
    for i, one in enumerate(leads):
        for j, other in enumerate(leads):
            if i != j and one and other and one[0] <= other[0] and one[1] <= other[1]:
                number = -other[2] * inverse_number(prime, one[2]) % prime
                return i, j, ((other[0] - one[0], other[1] - one[1], number),)
    return None


class Way:
    """A row on its way, and the steps that have led it so far."""

    def __init__(self, prime, row):
        self.prime = prime
        self.row = list(row)
        self.steps = []

    def go(self, i, j, poly):
        step = (i, j, poly)
        self.row[j] = entry_behind(self.prime, self.row, step)
        self.steps.append(step)

    def lower(self, lead):
        """Goes on as long as the lead of an entry divides that of another one; lead tells it of a poly."""
        step = lowering_of(self.prime, self.row, lead)
        while step is not None:
            self.go(step[0], step[1], step[2])
            step = lowering_of(self.prime, self.row, lead)

    def end(self):
        """Leads a row with an entry () to one in front and () elsewhere, and tells whether it could."""
        if () not in self.row:
            return False
        told = multiples_of(self.prime, [(poly,) for poly in self.row], 1)
        if told is None:
            return False
        free = self.row.index(())
        for at, share in enumerate(told[0]):
            if share != ():
                self.go(at, free, share)
        if free > 0:
            self.go(free, 0, lessened(self.prime, ONE, self.row[0]))
        for at in range(1, len(self.row)):
            self.go(0, at, lessened(self.prime, (), self.row[at]))
        return True


def steps_to_one(prime, row, lead):
    """Steps that lead the row to one in front and () elsewhere, by the lead told; None if these lowerings do not."""
    way = Way(prime, row)
    way.lower(lead)
    return steps_short(prime, way.steps) if way.end() else None


def steps_of_table(prime, table, lead):
    """Steps whose product a table of determinant 1 is; None if its first row is not led to one.

    A table of more than two rows is one of polys in x: their rows are always led to one.
    """
    if len(table) == 1:
        return []
    steps = steps_to_one(prime, table[0], lead)
    if steps is None:
        return None
    rows = [row_by_steps(prime, row, steps) for row in table[1:]]
    first = [(k + 1, 0, row[0]) for k, row in enumerate(rows)]
    below = steps_of_table(prime, [row[1:] for row in rows], lead)
    shifted = [(i + 1, j + 1, poly) for i, j, poly in below]
    return steps_short(prime, first + shifted + steps_back(prime, steps))
