"""Single steps: tables that are unit but for one poly beside the diagonal, and their products."""

from rowsfilled.checks import is_number_within, within_powers
from rowsfilled.errors import BadNumber, BadOther, BadPair, BadStep, BadSteps
from rowsfilled.shapes import are_places, are_steps_of, check_size, is_step_of
from rowsfilled.stepping import steps_back, steps_short, table_of_steps
from rowsfilled.tables import table_within
from rowsfilled.terms import multiplied
from rowsfilled.xlists import inverse_number


def check_step(prime, size, step):
    check_size(prime, size)
    if not is_step_of(prime, size, step):
        raise BadStep("no step of this size")


def check_steps(prime, size, steps):
    check_size(prime, size)
    if not are_steps_of(prime, size, steps):
        raise BadSteps("no list of steps of this size")


def step_table(prime, size, step):
    """The unit table but for the poly of the step."""
    check_step(prime, size, step)
    return table_of_steps(prime, size, [step])


def steps_table(prime, size, steps):
    """The product of the tables of the steps, from the first to the last one."""
    check_steps(prime, size, steps)
    return table_within(table_of_steps(prime, size, steps))


def steps_undone(prime, size, steps):
    """The steps whose table undoes that of these."""
    check_steps(prime, size, steps)
    return steps_back(prime, steps)


def steps_turned(prime, size, steps):
    """The steps whose table is that of these with rows as columns."""
    check_steps(prime, size, steps)
    return [(j, i, poly) for i, j, poly in reversed(steps)]


def steps_joined(prime, size, steps):
    """The steps without those of (), neighbours with the same i and the same j made one."""
    check_steps(prime, size, steps)
    return steps_short(prime, steps)


def crossed(prime, size, one, other):
    """The step that one, other, one undone and other undone make, one behind another."""
    check_step(prime, size, one)
    if not is_step_of(prime, size, other) or other[0] != one[1] or other[1] == one[0]:
        raise BadOther("no step that begins where the one before it ends, and leads on")
    return one[0], other[1], within_powers(multiplied(prime, one[2], other[2]))


def number_poly(prime, number):
    """The poly of any number."""
    return ((0, 0, number % prime),) if number % prime != 0 else ()


def check_pair(prime, size, i, j):
    check_size(prime, size)
    if not are_places(size, i, j):
        raise BadPair("no different indexes below the size")


def exchanging(prime, size, i, j):
    """Three steps whose table has 1 in row i at j, and -1 in row j at i."""
    check_pair(prime, size, i, j)
    one, minus = number_poly(prime, 1), number_poly(prime, -1)
    return [(i, j, one), (j, i, minus), (i, j, one)]


def scaling(prime, size, i, j, number):
    """Steps whose table has the number at (i, i) and its inverse at (j, j)."""
    check_pair(prime, size, i, j)
    if not is_number_within(number, 1, prime - 1):
        raise BadNumber("no number from 1 to prime - 1")
    inverse = inverse_number(prime, number)
    numbers = (number - 1, 1, inverse - 1, -number)
    places = ((i, j), (j, i), (i, j), (j, i))
    return steps_short(prime, [(k, m, number_poly(prime, c)) for (k, m), c in zip(places, numbers)])
