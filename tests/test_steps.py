"""Point 60: rowsfilled/steps.py."""

import itertools
import random
import unittest

from rowsfilled.errors import BadNumber, BadOther, BadPair, BadPrime, BadSize, BadStep, BadSteps
from rowsfilled.steps import (
    crossed, exchanging, scaling, step_table, steps_joined, steps_table, steps_turned, steps_undone,
)
from tests.judging import JudgingCase
from tests.reference import determinant_slowly, product, product_of_tables, scaled, summed, unit_slowly
from tests.samples import (
    NO_PRIMES, NO_SIZES, ONE, PRIMES, STRANGE, WIDE, X, Y, drawn_steps, no_polys, no_step, no_step_lists,
)

X_AND_ONE = ((0, 0, 1), (1, 0, 1))


def step_table_slowly(size, step):
    i, j, poly = step
    rows = [list(row) for row in unit_slowly(size)]
    rows[i][j] = poly
    return tuple(tuple(row) for row in rows)


def steps_table_slowly(prime, size, steps):
    table = unit_slowly(size)
    for step in steps:
        table = product_of_tables(prime, table, step_table_slowly(size, step))
    return table


def with_columns_as_rows(table):
    return tuple(zip(*table))


class TableTest(JudgingCase):

    def test_by_hand(self):
        steps = [(0, 1, X), (1, 0, ONE)]
        self.assert_same(steps_table(3, 2, steps), ((X_AND_ONE, X), (ONE, ONE)))
        self.assert_same(steps_turned(3, 2, steps), [(0, 1, ONE), (1, 0, X)])
        self.assert_same(steps_table(3, 2, [(0, 1, ONE), (1, 0, X)]), ((X_AND_ONE, ONE), (X, ONE)))

    def test_single_steps(self):
        for prime in PRIMES:
            for size in (2, 3, 4):
                for i, j in itertools.permutations(range(size), 2):
                    for poly in ((), ONE, X, ((0, 0, prime - 1), (3, 999, 1))):
                        expected = step_table_slowly(size, (i, j, poly))
                        self.assert_same(step_table(prime, size, (i, j, poly)), expected)
                        self.assert_same(steps_table(prime, size, [(i, j, poly)]), expected)

    def test_against_the_product(self):
        for prime in PRIMES:
            source = random.Random(prime)
            for size in (2, 3, 4):
                self.assert_same(steps_table(prime, size, []), unit_slowly(size))
                self.assert_same(steps_table(prime, size, ()), unit_slowly(size))
                for many in (1, 2, 3, 5, 8):
                    steps = drawn_steps(source, prime, size, many)
                    table = steps_table(prime, size, steps)
                    self.assert_same(table, steps_table_slowly(prime, size, steps))
                    self.assert_same(determinant_slowly(prime, table), ONE)
                    self.assert_same(steps_table(prime, size, tuple(steps)), table)

    def test_limit(self):
        high = ((500, 0, 1),)
        self.assert_same(steps_table(2, 3, [(0, 1, high), (1, 2, ((499, 0, 1),))])[0][2], ((999, 0, 1),))
        self.assert_too_many(999, steps_table, 2, 3, [(0, 1, high), (1, 2, high)])
        self.assert_too_many(999, steps_table, 2, 3, ((0, 1, ((0, 999, 1),)), (1, 2, Y)))
        # On the way powers are above the limit, and go again.
        way = [(0, 1, high), (1, 2, high)]
        back = steps_undone(2, 3, way)
        self.assert_same(steps_table(2, 3, way + back), unit_slowly(3))
        crossing = [(0, 1, high), (1, 0, high), (0, 1, high)]
        self.assert_too_many(999, steps_table, 2, 2, crossing)
        self.assert_same(steps_table(2, 2, crossing + [(1, 0, X)] + steps_undone(2, 2, [(1, 0, X)])
                                     + steps_undone(2, 2, crossing)), unit_slowly(2))

    def test_judged(self):
        for prime in PRIMES:
            for size in (2, 3, 4):
                names = ("prime", "size", "step")
                bads = [(BadPrime, NO_PRIMES), (BadSize, NO_SIZES), (BadStep, no_step(prime, size))]
                self.assert_judged(step_table, names, (prime, size, (0, 1, X)), bads)
                names = ("prime", "size", "steps")
                bads = [(BadPrime, NO_PRIMES), (BadSize, NO_SIZES), (BadSteps, no_step_lists(prime, size))]
                for function in (steps_table, steps_undone, steps_turned, steps_joined):
                    self.assert_judged(function, names, (prime, size, [(0, 1, X), (1, 0, Y)]), bads)

    def test_steps_of_greater_sizes(self):
        for size, step in ((2, (0, 2, X)), (2, (2, 1, X)), (3, (3, 0, X)), (3, (1, 3, X)), (4, (4, 0, X))):
            self.assert_refused(BadStep, step_table, 2, size, step)
            self.assert_refused(BadSteps, steps_table, 2, size, [(0, 1, X), step])
            if size < 4:
                self.assert_same(step_table(2, size + 1, step), step_table_slowly(size + 1, step))


class UndoneTest(JudgingCase):

    def test_undone(self):
        for prime in PRIMES:
            source = random.Random(prime)
            for size in (2, 3, 4):
                for many in (0, 1, 2, 6):
                    steps = drawn_steps(source, prime, size, many)
                    found = steps_undone(prime, size, steps)
                    self.assertIs(found.__class__, list)
                    self.assert_same(found, [(i, j, scaled(prime, -1, poly)) for i, j, poly in reversed(steps)])
                    table, back = steps_table(prime, size, steps), steps_table(prime, size, found)
                    self.assert_same(product_of_tables(prime, table, back), unit_slowly(size))
                    self.assert_same(steps_undone(prime, size, found), steps)

    def test_turned(self):
        for prime in PRIMES:
            source = random.Random(prime + 1)
            for size in (2, 3, 4):
                for many in (0, 1, 2, 6):
                    steps = drawn_steps(source, prime, size, many)
                    found = steps_turned(prime, size, steps)
                    self.assertIs(found.__class__, list)
                    self.assert_same(found, [(j, i, poly) for i, j, poly in reversed(steps)])
                    table = with_columns_as_rows(steps_table(prime, size, steps))
                    self.assert_same(steps_table(prime, size, found), table)

    def test_tuples_and_new_lists(self):
        steps = [(0, 1, X), (1, 0, Y)]
        for function in (steps_undone, steps_turned, steps_joined):
            first = function(2, 2, steps)
            self.assert_same(function(2, 2, tuple(steps)), first)
            kept = list(first)
            first.append(1)
            self.assert_same(function(2, 2, steps), kept)
            self.assertIsNot(function(2, 2, steps), steps)
            self.assert_same(function(2, 2, []), [])
            function(2, 2, []).append(1)
            self.assert_same(function(2, 2, ()), [])
        self.assert_same(steps, [(0, 1, X), (1, 0, Y)])


def joined_slowly(prime, steps):
    """One change at a time, wherever one can be made, until there is none."""
    steps = list(steps)
    while True:
        for k, (i, j, poly) in enumerate(steps):
            if poly == ():
                del steps[k]
                break
            if k > 0 and steps[k - 1][:2] == (i, j):
                steps[k - 1:k + 1] = [(i, j, summed(prime, steps[k - 1][2], poly))]
                break
        else:
            return steps


class JoinedTest(JudgingCase):

    def test_by_hand(self):
        self.assert_same(steps_joined(3, 2, [(0, 1, X), (0, 1, ONE)]), [(0, 1, X_AND_ONE)])
        self.assert_same(steps_joined(3, 2, [(0, 1, X), (1, 0, ONE)]), [(0, 1, X), (1, 0, ONE)])
        self.assert_same(steps_joined(3, 2, [(0, 1, ())]), [])
        self.assert_same(steps_joined(3, 2, [(0, 1, X), (1, 0, ()), (0, 1, ONE)]), [(0, 1, X_AND_ONE)])
        # The two in the middle become (), so that the outer ones meet.
        gone = [(1, 0, X), (1, 0, ((1, 0, 2),))]
        self.assert_same(steps_joined(3, 2, [(0, 1, X)] + gone + [(0, 1, ONE)]), [(0, 1, X_AND_ONE)])
        self.assert_same(steps_joined(3, 2, [(0, 1, X)] + gone + [(0, 1, ((1, 0, 2),))]), [])
        self.assert_same(steps_joined(2, 2, [(1, 0, Y)] * 5), [(1, 0, Y)])
        self.assert_same(steps_joined(2, 3, [(0, 1, X), (0, 2, X), (0, 1, X)]), [(0, 1, X), (0, 2, X), (0, 1, X)])
        self.assert_same(steps_joined(2, 3, [(0, 1, X), (1, 0, X), (0, 1, X)]), [(0, 1, X), (1, 0, X), (0, 1, X)])

    def test_drawn(self):
        for prime in PRIMES:
            source = random.Random(prime)
            shorter = 0
            for size in (2, 3):
                for _ in range(60):
                    polys = [(), ONE, ((0, 0, prime - 1),), X, scaled(prime, -1, X)]
                    places = list(itertools.permutations(range(size), 2))[:3]
                    steps = [source.choice(places) + (source.choice(polys),) for _ in range(source.randint(0, 12))]
                    found = steps_joined(prime, size, steps)
                    self.assertIs(found.__class__, list)
                    self.assert_same(found, joined_slowly(prime, steps))
                    self.assert_same(steps_joined(prime, size, found), found)
                    self.assert_same(steps_table(prime, size, found), steps_table(prime, size, steps))
                    back = steps_undone(prime, size, steps)
                    self.assert_same(steps_joined(prime, size, steps + back), [])
                    shorter += len(found) < len(steps)
            self.assertGreater(shorter, 30)


class CrossedTest(JudgingCase):

    def test_the_four_tables(self):
        for prime in PRIMES:
            source = random.Random(prime)
            for size in (3, 4):
                for i, j, k in itertools.permutations(range(size), 3):
                    (_, _, p), (_, _, q) = drawn_steps(source, prime, size, 2, 3, 3)
                    one, other = (i, j, p), (j, k, q)
                    found = crossed(prime, size, one, other)
                    self.assert_same(found, (i, k, product(prime, p, q)))
                    four = [one, other] + steps_undone(prime, size, [one]) + steps_undone(prime, size, [other])
                    self.assert_same(steps_table(prime, size, four), step_table(prime, size, found))

    def test_limit(self):
        high = ((999, 0, 1),)
        self.assert_same(crossed(2, 3, (0, 1, high), (1, 2, Y)), (0, 2, ((999, 1, 1),)))
        self.assert_too_many(999, crossed, 2, 3, (0, 1, high), (1, 2, X))
        self.assert_too_many(999, crossed, 2, 3, (0, 1, Y), (1, 2, ((0, 999, 1),)))
        self.assert_refused(BadOther, crossed, 2, 3, (0, 1, high), (1, 0, X))

    def test_other_steps(self):
        for size in (2, 3, 4):
            for one in itertools.permutations(range(size), 2):
                for other in itertools.permutations(range(size), 2):
                    arguments = (5, size, one + (X,), other + (Y,))
                    if one[1] == other[0] and other[1] != one[0]:
                        self.assert_same(crossed(*arguments), (one[0], other[1], ((1, 1, 1),)))
                    else:
                        self.assert_refused(BadOther, crossed, *arguments)

    def test_judged(self):
        names = ("prime", "size", "one", "other")
        for prime in PRIMES:
            for size in (3, 4):
                wrong = no_step(prime, size)
                others = wrong + [(1, 2, value) for value in no_polys(prime)]
                others += [(1, 0, X), (0, 1, X), (2, 1, X), (0, 2, X), (1, 1, X), (1, size, X), (True, 2, X)]
                bads = [(BadPrime, NO_PRIMES), (BadSize, NO_SIZES), (BadStep, wrong), (BadOther, others)]
                self.assert_judged(crossed, names, (prime, size, (0, 1, X), (1, 2, Y)), bads)


class ExchangingTest(JudgingCase):

    def test_all(self):
        for prime in PRIMES:
            minus = ((0, 0, prime - 1),)
            for size in (2, 3, 4):
                for i, j in itertools.permutations(range(size), 2):
                    steps = exchanging(prime, size, i, j)
                    self.assertIs(steps.__class__, list)
                    self.assertEqual(len(steps), 3)
                    rows = [list(row) for row in unit_slowly(size)]
                    rows[i][i] = rows[j][j] = ()
                    rows[i][j], rows[j][i] = ONE, minus
                    self.assert_same(steps_table(prime, size, steps), tuple(tuple(row) for row in rows))

    def test_scaling(self):
        for prime in PRIMES:
            for size in (2, 3, 4):
                for i, j in itertools.permutations(range(size), 2):
                    for number in range(1, prime):
                        steps = scaling(prime, size, i, j, number)
                        self.assertIs(steps.__class__, list)
                        self.assertLessEqual(len(steps), 6)
                        rows = [list(row) for row in unit_slowly(size)]
                        inverse = [c for c in range(prime) if c * number % prime == 1][0]
                        rows[i][i], rows[j][j] = ((0, 0, number),), ((0, 0, inverse),)
                        self.assert_same(steps_table(prime, size, steps), tuple(tuple(row) for row in rows))

    def test_new_lists_each_time(self):
        exchanging(3, 2, 0, 1).append(1)
        scaling(3, 2, 0, 1, 2).append(1)
        scaling(3, 2, 0, 1, 1).append(1)
        self.assertEqual(len(exchanging(3, 2, 0, 1)), 3)
        self.assert_same(steps_table(3, 2, scaling(3, 2, 0, 1, 1)), unit_slowly(2))

    def test_pairs(self):
        for size in (2, 3, 4):
            for i, j in [(0, 0), (1, 1), (0, size), (size, 0), (-1, 0), (0, -1), (True, 0), (0, True), (False, 1),
                         (1, False), (None, 1), ("0", 1), (0, [1]), (WIDE, 0), (size - 1, size - 1), ((0, 1), None)]:
                self.assert_refused(BadPair, exchanging, 5, size, i, j)
                self.assert_refused(BadPair, scaling, 5, size, i, j, 2)
                self.assert_refused(BadPair, scaling, 5, size, i, j, 0)
                self.assert_refused(BadSize, exchanging, 5, size + 4, i, j)
                self.assert_refused(BadPrime, scaling, 0, size + 4, i, j, 7)

    def test_judged(self):
        for prime in PRIMES:
            for size in (2, 3, 4):
                places = list(STRANGE) + [size, -1, 4, "1", (1,), [1], {}]
                bads = [(BadPrime, NO_PRIMES), (BadSize, NO_SIZES), (BadPair, places), (BadPair, places)]
                names = ("prime", "size", "i", "j")
                self.assert_judged(exchanging, names, (prime, size, 0, 1), bads)
                numbers = list(STRANGE) + [0, prime, -1, prime + 1, "1", (1,), ONE, True, [1]]
                names = names + ("number",)
                self.assert_judged(scaling, names, (prime, size, 0, 1, 1), bads + [(BadNumber, numbers)])


if __name__ == "__main__":
    unittest.main()
