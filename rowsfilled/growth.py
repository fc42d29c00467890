"""Sums of multiples of columns of polys: Buchberger's way, each step of it told.

A column is a dict from keys (i + weight * j, i, at) to numbers from 1 to prime - 1: the number stands in its entry at
the index at, with x to the i times y to the j. The lead of a column is its greatest key. The weight is 1 throughout,
or so great that powers of y count before all powers of x.
"""

from rowsfilled.xlists import inverse_number

Y_FIRST = 10000


def column_of(polys, weight=1):
    """The column whose entries are these polys."""
    return {(i + weight * j, i, at): c for at, poly in enumerate(polys) for i, j, c in poly}


def entries_of(column, size, weight=1):
    """The tuple of so many polys whose column this is."""
    terms = [[] for _ in range(size)]
    for (total, i, at), c in column.items():
        terms[at].append((i, (total - i) // weight, c))
    return tuple([tuple(sorted(held)) for held in terms])


def is_below(lead, other):
    """Whether a column with the lead other, times x and y to some powers, has the given lead."""
    return lead[2] == other[2] and other[1] <= lead[1] and other[0] - other[1] <= lead[0] - lead[1]


def take_away(prime, column, number, total, i, other):
    """Takes number times x to the i, y to the total - i, times other from a column."""
    for (total_there, i_there, at), c in other.items():
        key = (total + total_there, i + i_there, at)
        left = (column.get(key, 0) - number * c) % prime
        if left != 0:
            column[key] = left
        else:
            del column[key]


class Held:
    """A column with c = 1 in its lead, told as a column of multiples; reach tells how high powers went on the way."""

    def __init__(self, lead, column, telling, reach):
        self.lead = lead
        self.column = column
        self.telling = telling
        self.reach = reach


class Growth:
    """Sums of multiples of columns, held so that in the end the lead of every such sum is above one of their leads.

    Those that are held stand in stairs, one for each index: the power of x in their leads ascends, that of y
    descends. With leads in two letters, it is enough to look at neighbours on a stair.
    """

    def __init__(self, prime, size):
        self.prime = prime
        self.stairs = [[] for _ in range(size)]
        self.waiting = []
        self.names = 0

    def wait(self, column, telling, reach):
        if column:
            # The name keeps two columns from being compared.
            self.waiting.append((reach, max(column), self.names, column, telling))
            self.names += 1

    def is_whole(self):
        """Whether everything is a sum of multiples."""
        return all([stair and stair[0].lead[0] == 0 for stair in self.stairs])

    def grow(self):
        while self.waiting and not self.is_whole():
            task = min(self.waiting, key=lambda held: held[:3])
            self.waiting.remove(task)
            column, telling, reach = self.lowered(task[3], task[4], task[0])
            if column:
                self.hold(column, telling, reach)

    def lowered(self, column, telling, reach):
        """What multiples of the held ones leave of a column, as long as its lead is above one of theirs."""
        column = {key: column[key] for key in column}
        telling = {key: telling[key] for key in telling}
        while column:
            lead = max(column)
            below = [held for held in self.stairs[lead[2]] if is_below(lead, held.lead)]
            if not below:
                break
            held = below[0]
            total, i, number = lead[0] - held.lead[0], lead[1] - held.lead[1], column[lead]
            take_away(self.prime, column, number, total, i, held.column)
            take_away(self.prime, telling, number, total, i, held.telling)
            reach = max(reach, total + held.reach)
        return column, telling, reach

    def hold(self, column, telling, reach):
        lead = max(column)
        inverse = inverse_number(self.prime, column[lead])
        column = {key: c * inverse % self.prime for key, c in column.items()}
        telling = {key: c * inverse % self.prime for key, c in telling.items()}
        held = Held(lead, column, telling, reach)
        stair = []
        for other in list(self.stairs[lead[2]]):
            if is_below(other.lead, lead):
                self.wait(other.column, other.telling, other.reach)
            else:
                stair.append(other)
        before = [other for other in stair if other.lead[1] < lead[1]]
        behind = [other for other in stair if other.lead[1] > lead[1]]
        self.stairs[lead[2]] = before + [held] + behind
        for other in before[-1:] + behind[:1]:
            self.wait_for_both(held, other)

    def wait_for_both(self, one, other):
        """Lets the column wait that is left of the two if their leads are made the same and cancel out."""
        i = max(one.lead[1], other.lead[1])
        total = i + max(one.lead[0] - one.lead[1], other.lead[0] - other.lead[1])
        column, telling, reach = {}, {}, 0
        for number, held in ((-1, one), (1, other)):
            up, right = total - held.lead[0], i - held.lead[1]
            take_away(self.prime, column, number, up, right, held.column)
            take_away(self.prime, telling, number, up, right, held.telling)
            reach = max(reach, up + held.reach)
        self.wait(column, telling, reach)

    def told(self, at):
        """The column of multiples that come to the column with 1 at this index and 0 elsewhere, if all is held."""
        _, telling, _ = self.lowered({(0, 0, at): 1}, {}, 0)
        return {key: self.prime - c for key, c in telling.items()}


def grown(prime, columns, size, is_told, weight=1):
    """The growth of the columns of tuples of polys, each of this size; it can tell multiples if is_told."""
    growth = Growth(prime, size)
    for at, polys in enumerate(columns):
        column = column_of(polys, weight)
        if column:
            growth.wait(column, {(0, 0, at): 1} if is_told else {}, max(column)[0])
    growth.grow()
    return growth


def multiples_of(prime, columns, size):
    """None, or for each index the tuple of the multiples of the columns that come to 1 there and 0 elsewhere."""
    growth = grown(prime, columns, size, True)
    if not growth.is_whole():
        return None
    return [entries_of(growth.told(at), len(columns)) for at in range(size)]


def left_in_x(prime, poly, others):
    """The pair (rest, shares): poly, plus each share times its other poly, is a rest of the least power of y."""
    growth = grown(prime, [(other,) for other in others], 1, True, Y_FIRST)
    left, telling, _ = growth.lowered(column_of((poly,), Y_FIRST), {}, 0)
    return entries_of(left, 1, Y_FIRST)[0], entries_of(telling, len(others), Y_FIRST)


def unlike_size(prime, polys):
    """How many numbers tell a poly but for sums of multiples of these, None if endlessly many."""
    stair = grown(prime, [(poly,) for poly in polys], 1, False).stairs[0]
    if not stair or stair[0].lead[1] != 0 or stair[-1].lead[1] != stair[-1].lead[0]:
        return None
    size = 0
    for held, other in zip(stair, stair[1:]):
        size += (other.lead[1] - held.lead[1]) * (held.lead[0] - held.lead[1])
    return size
