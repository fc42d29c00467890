"""Point 51, and the words at the head of Part 5: rowsfilled/several.py."""

import random
import unittest

from rowsfilled.errors import BadGoals, BadPrime, BadRow, BadStrip, NotOnes, NotSolved
from rowsfilled.minors import minors, multiples
from rowsfilled.moving import determinant
from rowsfilled.several import crossing, factor_of, goal_met, is_last_row, last_row, solves
from tests.judging import JudgingCase
from tests.reference import determinant_slowly, product, scaled, summed, summed_products
from tests.samples import (
    NO_PRIMES, ONE, PRIMES, STRANGE, X, Y, drawn_grid, drawn_poly, drawn_row, led_table, nested, no_polys, no_rows,
    no_strips, x_poly,
)

FIRST = ((X, Y, ONE), ((), ONE, X))
LOST = ((X, Y, ()), ((), (), ONE))
FOUR = ((ONE, X, (), Y), ((), ONE, X, ()), ((), (), ONE, X))


def is_within(strip, most):
    return all(i <= most and j <= most for row in strip for poly in row for i, j, _ in poly)


def strips_to_one(source, prime, size, many, most=3):
    """Strips of the first rows of tables made by steps, with powers up to most."""
    found = []
    while len(found) < many:
        strip = led_table(source, prime, size, source.randint(2, 9), source.choice((1, 2, 3)))[:-1]
        if is_within(strip, most):
            found.append(strip)
    return found


def crossing_slowly(prime, strip):
    found = []
    for at in range(len(strip[0])):
        found.append(scaled(prime, (-1) ** at, determinant_slowly(prime, [row[:at] + row[at + 1:] for row in strip])))
    return tuple(found)


def highest(row):
    return max([max(i, j) for poly in row for i, j, _ in poly], default=0)


class CrossingTest(JudgingCase):

    def test_by_hand(self):
        self.assert_same(crossing(2, FIRST), (((0, 0, 1), (1, 1, 1)), ((2, 0, 1),), X))

    def test_signs(self):
        # Of the columns that are left out the second and the fourth one bring the other sign.
        three = ((ONE, (), ((0, 0, 2),)), ((), ONE, ((0, 0, 3),)))
        self.assert_same(crossing(7, three), (((0, 0, 5),), ((0, 0, 4),), ONE))
        four = ((ONE, (), (), X), ((), ONE, (), ((1, 0, 2),)), ((), (), ONE, ((1, 0, 3),)))
        self.assert_same(crossing(7, four), (((1, 0, 1),), ((1, 0, 2),), ((1, 0, 3),), ((0, 0, 6),)))

    def test_against_the_words(self):
        for prime in PRIMES:
            source = random.Random(prime)
            for size in (3, 4):
                for _ in range(12):
                    strip = drawn_grid(source, prime, size - 1, size)
                    found = crossing(prime, strip)
                    self.assertIs(found.__class__, tuple)
                    self.assert_same(found, crossing_slowly(prime, strip))
                    unsigned = tuple(scaled(prime, (-1) ** at, poly) for at, poly in enumerate(found))
                    self.assert_same(unsigned[::-1], minors(prime, strip))
                    self.assert_same(solves(prime, strip, found), True)

    def test_limit(self):
        high = ((500, 0, 1),)
        self.assert_too_many(999, crossing, 2, ((high, X, ()), (X, high, ONE)))
        self.assert_same(crossing(2, ((high, high, ()), (high, high, ONE))), (high, high, ()))

    def test_judged(self):
        for prime in PRIMES:
            for strip in (FIRST, FOUR):
                bads = [(BadPrime, NO_PRIMES), (BadStrip, no_strips(prime))]
                self.assert_judged(crossing, ("prime", "strip"), (prime, strip), bads)
                self.assert_judged(last_row, ("prime", "strip"), (prime, strip), bads)


class LastRowTest(JudgingCase):

    def check(self, prime, strip):
        """Whether the strip comes to 1; just then it has a last row."""
        found = last_row(prime, strip)
        self.assertEqual(found is None, multiples(prime, strip) is None, (prime, strip))
        if found is None:
            self.assert_refused(NotOnes, goal_met, prime, strip, None)
            self.assert_refused(NotOnes, factor_of, prime, strip, None)
            return False
        self.assertIs(found.__class__, tuple)
        self.assertEqual(len(found), len(strip) + 1)
        self.assert_same(determinant_slowly(prime, strip + (found,)), ONE)
        self.assert_same(is_last_row(prime, strip, found), True)
        return True

    def test_by_hand(self):
        self.assertTrue(self.check(2, FIRST))
        self.assertFalse(self.check(2, LOST))
        self.assertTrue(self.check(2, FOUR))
        self.assert_same(is_last_row(2, FIRST, (ONE, (), Y)), True)
        self.assert_same(determinant(2, FIRST + ((ONE, (), Y),)), ONE)

    def test_drawn(self):
        for prime in PRIMES:
            source = random.Random(prime)
            told = [0, 0]
            for size in (3, 4):
                for _ in range(30):
                    told[self.check(prime, drawn_grid(source, prime, size - 1, size, source.choice((1, 2, 3))))] += 1
                for strip in strips_to_one(source, prime, size, 20):
                    told[self.check(prime, strip)] += 1
                    mixed = list(zip(*strip))
                    source.shuffle(mixed)
                    self.assertTrue(self.check(prime, tuple(zip(*mixed))))
            self.assertGreater(min(told), 20)

    def test_rows_that_hang_together(self):
        for prime in PRIMES:
            row = (X, ONE, Y)
            self.assertFalse(self.check(prime, (row, row)))
            self.assertFalse(self.check(prime, (row, ((), (), ()))))
            self.assertFalse(self.check(prime, (row, tuple(product(prime, X, poly) for poly in row))))
            self.assertFalse(self.check(prime, FOUR[:2] + (tuple(summed(prime, *pair) for pair in zip(*FOUR[:2])),)))
            # Only at x = 1, y = 1 do they hang together.
            self.assertFalse(self.check(prime, ((ONE, X, ()), (Y, ONE, summed(prime, X, ((0, 0, prime - 1),))))))

    def test_powers_up_to_three_are_told(self):
        for prime in PRIMES:
            source = random.Random(prime + 1)
            for size in (3, 4):
                for strip in strips_to_one(source, prime, size, 10):
                    self.assertLess(highest(last_row(prime, strip)), 200)

    def test_polys_in_x_with_powers_up_to_40(self):
        for prime in PRIMES:
            source = random.Random(prime + 2)
            told = 0
            for size in (3, 4):
                for _ in range(3):
                    strip = tuple(tuple(x_poly([source.randrange(prime) for _ in range(41)]) for _ in range(size))
                                  for _ in range(size - 1))
                    if self.check(prime, strip):
                        told += 1
                        self.assertLess(highest(last_row(prime, strip)), 400)
            self.assertGreater(told, 0)

    def test_limit(self):
        # The crossing is (1 + x ** 300 * y ** 600, x ** 999, 0): what inverts the one modulo the other has y ** 1200.
        strip = ((((999, 0, 1),), ((0, 0, 1), (300, 600, 1)), ()), ((), (), ONE))
        self.assert_same(crossing(2, strip), (((0, 0, 1), (300, 600, 1)), ((999, 0, 1),), ()))
        self.assert_too_many(999, last_row, 2, strip)
        strip = ((((999, 0, 1),), ((0, 0, 1), (500, 300, 1)), ()), ((), (), ONE))
        self.assertTrue(self.check(2, strip))


class IsLastRowTest(JudgingCase):

    def test_values_of_every_kind(self):
        for prime in PRIMES:
            for strip in (FIRST, FOUR):
                good = last_row(prime, strip)
                size = len(good)
                wrong = no_rows(prime, (size,)) + [
                    list(good), good[:-1], good + ((),), dict(enumerate(good)), (good,), strip, strip[0],
                    tuple(product(prime, X, poly) for poly in good), ((),) * size, nested("tuple", 80),
                    tuple(summed(prime, poly, poly) for poly in good) if prime != 2 else None,
                ]
                wrong += [good[:-1] + (value,) for value in no_polys(prime)[::3]]
                for value in wrong:
                    self.assert_same(is_last_row(prime, strip, value), False)
                for held in strip:
                    more = tuple(summed(prime, one, product(prime, Y, other)) for one, other in zip(good, held))
                    self.assert_same(is_last_row(prime, strip, more), True)

    def test_of_the_unit_table(self):
        unit = ((ONE, (), ()), ((), ONE, ()))
        self.assert_same(is_last_row(2, unit, ((), (), ONE)), True)
        self.assert_same(is_last_row(2, unit, ((), (), ((0, 0, True),))), False)
        self.assert_same(is_last_row(3, unit, (X, Y, ONE)), True)
        self.assert_same(is_last_row(3, unit, ((), (), ((0, 0, 2),))), False)
        self.assert_same(is_last_row(2, unit, (((999, 999, 1),), ((999, 0, 1),), ONE)), True)

    def test_strips_that_do_not_come_to_one(self):
        for thing in (None, (ONE, (), Y), [ONE, (), Y], nested("list", 80)):
            self.assert_same(is_last_row(2, LOST, thing), False)

    def test_judged(self):
        names = ("prime", "strip", "thing")
        for prime in PRIMES:
            bads = [(BadPrime, NO_PRIMES), (BadStrip, no_strips(prime)), None]
            self.assert_judged(is_last_row, names, (prime, FIRST, (ONE, (), Y)), bads)
            self.assert_judged(is_last_row, names, (prime, FOUR, None), bads)


class SolvesTest(JudgingCase):

    def test_drawn(self):
        for prime in PRIMES:
            source = random.Random(prime)
            for size in (3, 4):
                for _ in range(10):
                    strip = drawn_grid(source, prime, size - 1, size)
                    found = crossing(prime, strip)
                    for poly in ((), ONE, X, drawn_poly(source, prime, 3, 4)):
                        row = tuple(product(prime, poly, held) for held in found)
                        self.assert_same(solves(prime, strip, row), True)
                    row = drawn_row(source, prime, size)
                    expected = all(summed_products(prime, held, row) == () for held in strip)
                    self.assert_same(solves(prime, strip, row), expected)

    def test_each_row_counts(self):
        strip = ((ONE, (), ()), ((), ONE, ()))
        self.assert_same(solves(2, strip, ((), (), Y)), True)
        self.assert_same(solves(2, strip, (X, (), Y)), False)
        self.assert_same(solves(2, strip, ((), X, Y)), False)
        four = strip[0] + ((),), strip[1] + ((),), ((), (), ONE, ())
        self.assert_same(solves(2, four, ((), (), (), X)), True)
        self.assert_same(solves(2, four, ((), (), ONE, X)), False)

    def test_also_where_it_does_not_come_to_one(self):
        self.assert_same(solves(2, LOST, (Y, X, ())), True)
        self.assert_same(solves(2, LOST, (ONE, (), ())), False)
        self.assert_same(solves(2, ((X, Y, ()), (X, Y, ())), (Y, X, ONE)), True)

    def test_high_powers(self):
        high = ((999, 999, 1),)
        self.assert_same(solves(2, ((high, high, ()), ((), (), ())), (high, high, ONE)), True)
        self.assert_same(solves(2, ((high, high, ()), ((), (), ())), (high, X, ONE)), False)

    def test_judged(self):
        names = ("prime", "strip", "row")
        for prime in PRIMES:
            bads = [(BadPrime, NO_PRIMES), (BadStrip, no_strips(prime)), (BadRow, no_rows(prime, (3,)))]
            self.assert_judged(solves, names, (prime, FIRST, (X, Y, ONE)), bads)
            bads = [(BadPrime, NO_PRIMES), (BadStrip, no_strips(prime)), (BadRow, no_rows(prime, (4,)))]
            self.assert_judged(solves, names, (prime, FOUR, (X, Y, ONE, ())), bads)


class FactorOfTest(JudgingCase):

    def test_just_this(self):
        for prime in PRIMES:
            source = random.Random(prime)
            for size in (3, 4):
                for strip in strips_to_one(source, prime, size, 8):
                    found = crossing(prime, strip)
                    polys = [drawn_poly(source, prime, 4, 5) for _ in range(4)]
                    for poly in [(), ONE, ((0, 0, prime - 1),), X] + polys:
                        row = tuple(product(prime, poly, held) for held in found)
                        self.assert_same(factor_of(prime, strip, row), poly)

    def test_limit(self):
        strip = ((ONE, (), ()), ((), ONE, ()))
        self.assert_same(factor_of(2, strip, ((), (), ((999, 999, 1),))), ((999, 999, 1),))

    def test_errors_in_sequence(self):
        for prime in PRIMES:
            for row in (None, (X, Y), [X, Y, ONE], (ONE, (), ()), (Y, X, ()), nested("list", 80)):
                self.assert_refused(NotOnes, factor_of, prime, LOST, row)
                self.assert_refused(BadStrip, factor_of, prime, list(LOST), row)
                self.assert_refused(BadPrime, factor_of, 4, LOST, row)
            for row in ((X, Y), (X, Y, ONE, ()), [X, Y, ONE], None):
                self.assert_refused(BadRow, factor_of, prime, FIRST, row)
            for row in ((ONE, (), ()), (X, Y, ONE), last_row(prime, FIRST)):
                self.assert_refused(NotSolved, factor_of, prime, FIRST, row)
        # It solves the first row only, or the second one only.
        strip = ((ONE, (), ()), ((), ONE, ()))
        self.assert_refused(NotSolved, factor_of, 2, strip, ((), ONE, X))
        self.assert_refused(NotSolved, factor_of, 2, strip, (ONE, (), X))

    def test_judged(self):
        names = ("prime", "strip", "row")
        for prime in PRIMES:
            bads = [(BadPrime, NO_PRIMES), (BadStrip, no_strips(prime)), (BadRow, no_rows(prime, (3,)))]
            self.assert_judged(factor_of, names, (prime, FIRST, crossing(prime, FIRST)), bads)
            bads = [None, (NotOnes, [LOST, (FIRST[0], FIRST[0])]), (BadRow, no_rows(prime, (3,)))]
            self.assert_judged(factor_of, names, (prime, FIRST, ((), (), ())), bads)
            bads = [(BadPrime, NO_PRIMES), (BadStrip, no_strips(prime)), (BadRow, no_rows(prime, (4,)))]
            self.assert_judged(factor_of, names, (prime, FOUR, crossing(prime, FOUR)), bads)


class GoalMetTest(JudgingCase):

    def check(self, prime, strip, goals):
        row = goal_met(prime, strip, goals)
        self.assertIs(row.__class__, tuple)
        self.assertEqual(len(row), len(strip) + 1)
        self.assert_same(tuple(summed_products(prime, held, row) for held in strip), goals)
        return row

    def test_drawn(self):
        for prime in PRIMES:
            source = random.Random(prime)
            for size in (3, 4):
                for strip in strips_to_one(source, prime, size, 10):
                    found = crossing(prime, strip)
                    for _ in range(4):
                        goals = drawn_row(source, prime, size - 1)
                        row = self.check(prime, strip, goals)
                        self.assertLess(highest(row), 200)
                        other = tuple(summed(prime, held, product(prime, X, more)) for held, more in zip(row, found))
                        less = tuple(summed(prime, one, scaled(prime, -1, two)) for one, two in zip(other, row))
                        self.assert_same(factor_of(prime, strip, less), X)

    def test_limit(self):
        # The second entry is the second goal; times x ** 600 it is taken from the first one.
        strip = ((ONE, ((600, 0, 1),), ()), ((), ONE, ()))
        self.assert_too_many(999, goal_met, 2, strip, (X, ((400, 0, 1),)))
        self.assert_same(goal_met(2, strip, ((), ((399, 0, 1),)))[:2], (((999, 0, 1),), ((399, 0, 1),)))

    def test_single_goals(self):
        for prime in PRIMES:
            for strip in (FIRST, FOUR):
                for at in range(len(strip)):
                    goals = tuple(Y if k == at else () for k in range(len(strip)))
                    self.check(prime, strip, goals)
                self.check(prime, strip, ((),) * len(strip))

    def test_errors_in_sequence(self):
        for goals in (None, (X,), [X, Y], (X, Y), nested("list", 80)):
            self.assert_refused(NotOnes, goal_met, 2, LOST, goals)
            self.assert_refused(BadStrip, goal_met, 2, LOST[:1], goals)

    def test_judged(self):
        names = ("prime", "strip", "goals")
        for prime in PRIMES:
            strange = list(STRANGE) + [(X, True), (X, None), (((0, 0, True),), X)]
            wrong = no_rows(prime, (2,)) + strange
            bads = [(BadPrime, NO_PRIMES), (BadStrip, no_strips(prime)), (BadGoals, wrong)]
            self.assert_judged(goal_met, names, (prime, FIRST, (X, Y)), bads)
            wrong = no_rows(prime, (3,)) + strange
            bads = [(BadPrime, NO_PRIMES), (BadStrip, no_strips(prime)), (BadGoals, wrong)]
            self.assert_judged(goal_met, names, (prime, FOUR, (X, Y, ONE)), bads)
            bads = [None, (NotOnes, [LOST, (FIRST[0], FIRST[0])]), (BadGoals, no_rows(prime, (2,)))]
            self.assert_judged(goal_met, names, (prime, FIRST, (X, Y)), bads)


if __name__ == "__main__":
    unittest.main()
