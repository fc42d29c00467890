"""Point 50, and the words at the head of Part 5: rowsfilled/minors.py."""

import itertools
import random
import unittest

from rowsfilled.errors import BadGrid, BadPrime, BadTable
from rowsfilled.minors import adjoint, dependent, grid_by, is_dependent, minors, multiples
from rowsfilled.moving import determinant, inverse, row_by, table_product, unit
from rowsfilled.ones import are_ones, ones
from rowsfilled.turns import turned
from rowsfilled.zeros import common_spot, is_spot
from tests.judging import JudgingCase
from tests.reference import degree, determinant_slowly, high_slowly, product, scaled, summed, summed_products
from tests.samples import (
    NO_PRIMES, ONE, PRIMES, STRANGE, X, Y, drawn_grid, drawn_poly, drawn_row, led_table, nested, no_grids, no_polys,
    no_tables, no_x_polys, prime_polys,
)

FIRST = ((X, Y, ONE), ((), ONE, X))
SECOND = ((X, Y, ()), ((), (), ONE))
SHAPES = [(many, size) for size in (2, 3, 4) for many in range(1, size + 1)]


def minors_slowly(prime, grid):
    found = []
    for lot in itertools.combinations(range(len(grid[0])), len(grid)):
        found.append(determinant_slowly(prime, [[row[at] for at in lot] for row in grid]))
    return tuple(found)


def led_grid(source, prime, many, size, steps=6):
    """A grid whose minors come to 1: the first rows of a table of determinant 1."""
    return led_table(source, prime, size, steps)[:many]


class GridByTest(JudgingCase):

    def test_rows(self):
        for prime in PRIMES:
            source = random.Random(prime)
            for many, size in SHAPES:
                grid, table = drawn_grid(source, prime, many, size), drawn_grid(source, prime, size, size)
                found = grid_by(prime, grid, table)
                self.assert_same(found, tuple(row_by(prime, row, table) for row in grid))
                self.assert_same(grid_by(prime, grid, unit(prime, size)), grid)
                if many == size:
                    self.assert_same(found, table_product(prime, grid, table))

    def test_unlike_sizes(self):
        for many, size in SHAPES:
            grid = ((X,) * size,) * many
            for other in (2, 3, 4):
                if other != size:
                    self.assert_refused(BadTable, grid_by, 3, grid, unit(3, other))

    def test_minors_of_the_product(self):
        for prime in PRIMES:
            source = random.Random(prime + 1)
            for many, size in SHAPES:
                grid, table = drawn_grid(source, prime, many, size, 1, 2), drawn_grid(source, prime, size, size, 1, 2)
                lots = list(itertools.combinations(range(size), many))
                before = minors(prime, grid)
                for at, columns in enumerate(lots):
                    shares = []
                    for rows in lots:
                        shares.append(determinant_slowly(prime, [[table[i][j] for j in columns] for i in rows]))
                    expected = summed_products(prime, before, shares)
                    self.assert_same(minors(prime, grid_by(prime, grid, table))[at], expected)

    def test_limit(self):
        high = ((500, 0, 1),)
        self.assert_too_many(999, grid_by, 2, ((X, high),), ((X, X), (high, ())))
        self.assert_same(grid_by(2, ((high, high),), ((high, X), (high, ()))), (((), ((501, 0, 1),)),))

    def test_judged(self):
        for prime in PRIMES:
            names = ("prime", "grid", "table")
            bads = [(BadPrime, NO_PRIMES), (BadGrid, no_grids(prime)), (BadTable, no_tables(prime, (3,)))]
            self.assert_judged(grid_by, names, (prime, FIRST, unit(prime, 3)), bads)
            bads = [(BadPrime, NO_PRIMES), (BadGrid, no_grids(prime)), (BadTable, no_tables(prime, (2,)))]
            self.assert_judged(grid_by, names, (prime, ((X, Y),), unit(prime, 2)), bads)


class AdjointTest(JudgingCase):

    def test_two_rows(self):
        table = ((X, Y), (ONE, ((0, 0, 2),)))
        self.assert_same(adjoint(3, table), ((((0, 0, 2),), ((0, 1, 2),)), (((0, 0, 2),), X)))

    def test_against_the_words(self):
        for prime in PRIMES:
            source = random.Random(prime + 2)
            for size in (2, 3, 4):
                for _ in range(8):
                    table = drawn_grid(source, prime, size, size)
                    found = adjoint(prime, table)
                    for i, j in itertools.product(range(size), repeat=2):
                        rest = [row[:i] + row[i + 1:] for k, row in enumerate(table) if k != j]
                        sign = (-1) ** (i + j)
                        self.assert_same(found[i][j], scaled(prime, sign, determinant_slowly(prime, rest)))
                    whole = determinant(prime, table)
                    diagonal = tuple(tuple(whole if i == j else () for j in range(size)) for i in range(size))
                    self.assert_same(table_product(prime, table, found), diagonal)
                    self.assert_same(table_product(prime, found, table), diagonal)

    def test_inverse(self):
        for prime in PRIMES:
            source = random.Random(prime + 3)
            for size in (2, 3, 4):
                table = led_grid(source, prime, size, size)
                self.assert_same(adjoint(prime, table), inverse(prime, table))

    def test_limit(self):
        high = ((500, 0, 1),)
        self.assert_same(adjoint(2, ((((999, 999, 1),), X), (X, X)))[1][1], ((999, 999, 1),))
        self.assert_too_many(999, adjoint, 2, ((high, X, X), (X, high, X), (X, X, X)))
        self.assert_same(adjoint(2, ((high, high, ()), (high, high, ()), ((), (), X)))[2][2], ())

    def test_judged(self):
        for prime in PRIMES:
            bads = [(BadPrime, NO_PRIMES), (BadTable, no_tables(prime))]
            self.assert_judged(adjoint, ("prime", "table"), (prime, ((X, Y), (ONE, ()))), bads)


class MinorsTest(JudgingCase):

    def test_by_hand(self):
        self.assert_same(minors(2, FIRST), (X, ((2, 0, 1),), ((0, 0, 1), (1, 1, 1))))
        self.assert_same(minors(2, SECOND), ((), X, Y))

    def test_sequence(self):
        # The columns 0 1, 0 2, 0 3, 1 2, 1 3, 2 3.
        row = (ONE, ((0, 0, 2),), ((0, 0, 3),), ((0, 0, 4),))
        other = (ONE, X, ((2, 0, 1),), ((3, 0, 1),))
        found = minors(5, (row, other))
        self.assertEqual([degree(poly) for poly in found], [1, 2, 3, 2, 3, 3])
        self.assert_same(found, minors_slowly(5, (row, other)))

    def test_against_the_words(self):
        for prime in PRIMES:
            source = random.Random(prime + 4)
            for many, size in SHAPES:
                for _ in range(6):
                    grid = drawn_grid(source, prime, many, size)
                    found = minors(prime, grid)
                    self.assert_same(found, minors_slowly(prime, grid))
                    if many == 1:
                        self.assert_same(found, grid[0])
                    if many == size:
                        self.assert_same(found, (determinant(prime, grid),))

    def test_limit(self):
        high = ((500, 0, 1),)
        self.assert_too_many(999, minors, 2, ((high, X, ()), (X, high, ())))
        self.assert_same(minors(2, ((high, high, ()), (high, high, ONE))), ((), high, high))
        self.assert_same(minors(2, ((((999, 999, 1),), ()),)), (((999, 999, 1),), ()))

    def test_judged(self):
        for prime in PRIMES:
            bads = [(BadPrime, NO_PRIMES), (BadGrid, no_grids(prime))]
            for function in (minors, multiples, dependent):
                self.assert_judged(function, ("prime", "grid"), (prime, FIRST), bads)
            # A row alone is no grid, a list of rows is none.
            self.assert_refused(BadGrid, minors, prime, (X, Y))
            self.assert_refused(BadGrid, minors, prime, [(X, Y)])
            self.assert_same(minors(prime, ((X, Y),)), (X, Y))


class JustOneTest(JudgingCase):

    def check(self, prime, grid):
        """Whether the minors come to 1; what is told for it."""
        found, hung = multiples(prime, grid), dependent(prime, grid)
        if found is None:
            self.check_dependent(prime, grid, hung)
            return False
        self.assert_same(hung, None)
        self.assertIs(found.__class__, tuple)
        all_minors = minors_slowly(prime, grid)
        self.assertEqual(len(found), len(all_minors))
        self.assert_same(summed_products(prime, all_minors, found), ONE)
        return True

    def check_dependent(self, prime, grid, hung):
        self.assertIs(hung.__class__, tuple)
        (turn, q, h), numbers = hung
        self.assertEqual(len(numbers), len(grid))
        self.assertTrue(any(numbers))
        for number in numbers:
            self.assertLess(degree(number), degree(q))
            self.assertLess(high_slowly(number, "y"), high_slowly(h, "y"))
        sums = []
        for column in zip(*grid):
            column = [poly if turn is None else turned(prime, poly, turn) for poly in column]
            sums.append(summed_products(prime, column, numbers))
        for poly in sums:
            if high_slowly(poly, "x") <= 3 and high_slowly(poly, "y") <= 3:
                self.assert_same(is_spot(prime, (poly, ()), (None, q, h)), True)
        self.assert_same(is_dependent(prime, grid, hung), True)

    def test_by_hand(self):
        self.assertTrue(self.check(2, FIRST))
        self.assertFalse(self.check(2, SECOND))
        self.assert_same(is_dependent(2, SECOND, ((None, X, Y), (ONE, ()))), True)
        self.assert_same(is_dependent(2, SECOND, ((None, X, Y), ((), ONE))), False)
        self.assert_same(is_dependent(2, SECOND, ((None, X, Y), (ONE, ONE))), False)

    def test_drawn(self):
        for prime in PRIMES:
            source = random.Random(prime + 5)
            told = [0, 0]
            for many, size in SHAPES:
                for most_power, terms, times in ((1, 2, 14), (1, 4, 6), (2, 3, 4), (3, 4, 1)):
                    for _ in range(times):
                        told[self.check(prime, drawn_grid(source, prime, many, size, most_power, terms))] += 1
            self.assertGreater(min(told), 10)

    def test_led_grids_come_to_one(self):
        for prime in PRIMES:
            source = random.Random(prime + 6)
            for many, size in SHAPES:
                for _ in range(4):
                    grid = led_grid(source, prime, many, size)
                    self.assertTrue(self.check(prime, grid))
                    table = led_grid(source, prime, size, size, 2)
                    self.assertTrue(self.check(prime, grid_by(prime, grid, table)))

    def test_tables_keep_it(self):
        for prime in PRIMES:
            source = random.Random(prime + 7)
            for many, size in SHAPES:
                grid = drawn_grid(source, prime, many, size, 1, 2)
                table = led_grid(source, prime, size, size, 3)
                self.assertEqual(self.check(prime, grid), self.check(prime, grid_by(prime, grid, table)))

    def test_one_row(self):
        for prime in PRIMES:
            source = random.Random(prime + 8)
            for size in (2, 3, 4):
                for _ in range(15):
                    row = drawn_row(source, prime, size, 2, 3)
                    self.assertEqual(self.check(prime, (row,)), ones(prime, row) is not None)
                    if ones(prime, row) is not None:
                        self.assert_same(are_ones(prime, row, multiples(prime, (row,))), True)
                    else:
                        self.assert_same(is_dependent(prime, (row,), (common_spot(prime, row), (ONE,))), True)

    def test_tables(self):
        for prime in PRIMES:
            for size in (2, 3, 4):
                for c in range(1, prime):
                    number = ((0, 0, c),)
                    table = ((number,) + unit(prime, size)[0][1:],) + unit(prime, size)[1:]
                    self.assert_same(multiples(prime, table), (((0, 0, pow(c, -1, prime)),),))
                    self.assertTrue(self.check(prime, table))
                for poly in ((), X, Y, ((0, 0, 1), (1, 1, 1)), prime_polys(prime, 3, 1)[0]):
                    table = ((poly,) + unit(prime, size)[0][1:],) + unit(prime, size)[1:]
                    self.assertFalse(self.check(prime, table))

    def test_rows_that_hang_together(self):
        for prime in PRIMES:
            source = random.Random(prime + 9)
            for many, size in SHAPES:
                if many == 1:
                    continue
                for _ in range(3):
                    rows = [drawn_row(source, prime, size, 1, 3) for _ in range(many - 1)]
                    shares = [drawn_poly(source, prime, 1, 2) for _ in rows]
                    last = tuple(summed_products(prime, column, shares) for column in zip(*rows))
                    at = source.randrange(many)
                    grid = tuple(rows[:at] + [last] + rows[at:])
                    self.assertFalse(self.check(prime, grid))
                    number = source.randrange(prime)
                    # The same but for multiples of x less a number: they hang together where x is this number.
                    less_number = summed(prime, X, ((0, 0, prime - number),) if number else ())
                    more = tuple(product(prime, less_number, poly) for poly in drawn_row(source, prime, size, 1, 2))
                    row = tuple(summed(prime, one, other) for one, other in zip(grid[0], more))
                    self.assertFalse(self.check(prime, (row,) + grid[1:]))

    def test_lesser_factors_are_found(self):
        # The spot of all minors splits further where the rows are looked at.
        for prime in PRIMES:
            less_one = ((0, 0, prime - 1), (0, 1, 1))
            lots = [((Y, ()), ((), less_one)), ((product(prime, Y, Y), X), (X, product(prime, less_one, Y)))]
            for row, other in lots:
                self.assertFalse(self.check(prime, (row, other)))
                self.assertFalse(self.check(prime, (row + ((),), other + ((),))))
            square = ((0, 2, 1),)
            self.assertFalse(self.check(prime, ((Y, ()), ((), Y))))
            self.assertFalse(self.check(prime, ((square, Y), (Y, ONE))))
            self.assertFalse(self.check(prime, ((Y, X, ()), ((), product(prime, Y, less_one), X), (X, (), less_one))))

    def test_nothing(self):
        for prime in PRIMES:
            for many, size in SHAPES:
                self.assertFalse(self.check(prime, (((),) * size,) * many))
                if many > 1:
                    self.assertFalse(self.check(prime, ((ONE,) * size,) * many))

    def test_zeros_in_greater_fields(self):
        for prime in PRIMES:
            cubic = prime_polys(prime, 3, 1)[0]
            square = prime_polys(prime, 2, 1)[0]
            swapped = tuple((0, i, c) for i, _, c in square)
            self.assertFalse(self.check(prime, ((cubic, (), swapped), ((), ONE, ()))))
            self.assertFalse(self.check(prime, ((cubic, swapped, (), ()), ((), (), ONE, X), ((), (), (), ONE))))


class IsDependentTest(JudgingCase):

    def test_values_of_every_kind(self):
        spot = (None, X, Y)
        good = (spot, (ONE, ()))
        self.assert_same(is_dependent(3, SECOND, good), True)
        wrong = list(STRANGE) + no_grids(3)[::5] + [
            (), [], {}, list(good), (spot,), good + ((),), (spot, [ONE, ()]), (list(spot), (ONE, ())), (spot, ((), ())),
            (spot, (ONE,)), (spot, (ONE, (), ())), (spot, ()), ((ONE, ()), spot), {0: spot, 1: (ONE, ())}, (spot, {}),
            (None, (ONE, ())), (spot, None), (spot, (True, ())), (spot, (1, 0)), (spot, (((0, 0, True),), ())),
            (spot, (((0, 0, 1),), ((0, False, 1),))), (spot, (((False, 0, 1),), ())), (spot, (ONE, [])),
            (spot, (X, ())), (spot, (Y, ())), (spot, (ONE, X)), (spot, (((0, 0, 1), (0, 1, 1)), ())),
            (spot, (ONE, ((1, 1, 1),))), ((None, Y, X), (ONE, ())), ((None, X, ONE), (ONE, ())),
            ((None, X, ()), (ONE, ())), ((None, ONE, Y), (ONE, ())), ((False, X, Y), (ONE, ())), ((0, X, Y), (ONE, ())),
            ((["swap"], X, Y), (ONE, ())), ((None, ((1, 0, 2),), Y), (ONE, ())), ((None, X, ((0, 1, 2),)), (ONE, ())),
            ((None, X, ((1, 1, 1),)), (ONE, ())),
            (nested("tuple", 79), (ONE, ())), (spot, nested("tuple", 79)), (spot, (ONE, nested("list", 78))),
        ]
        wrong += [((None, value, Y), (ONE, ())) for value in no_x_polys(3)]
        wrong += [((None, X, value), (ONE, ())) for value in no_polys(3)]
        wrong += [(spot, (value, ())) for value in no_polys(3)] + [(spot, (ONE, value)) for value in no_polys(3)]
        for value in wrong:
            self.assert_same(is_dependent(3, SECOND, value), False)
            self.assert_same(is_dependent(3, (((), ()), ((), ())), value), False)
        self.assert_same(is_dependent(3, (((), ()), ((), ())), good), True)

    def test_turns(self):
        grid = ((((0, 0, 1), (1, 0, 2)), Y),)
        self.assert_same(is_dependent(3, grid, ((("swap",), X, ((0, 0, 2), (0, 1, 1))), (ONE,))), True)
        self.assert_same(is_dependent(3, grid, ((None, X, ((0, 0, 2), (0, 1, 1))), (ONE,))), False)
        grid = ((((0, 2, 2), (1, 0, 1)), ((0, 3, 1),)), (ONE, ONE))
        for turn, expected in ((("slide", 2), True), (("back", 2), False), (("slide", 1), False), (None, False)):
            self.assert_same(is_dependent(3, grid, ((turn, X, ((0, 3, 1),)), (ONE, ()))), expected)
            self.assert_same(is_dependent(3, grid, ((turn, X, ((0, 3, 1),)), ((), ONE))), False)

    def test_numbers_with_letters(self):
        # y times x is 0 modulo x; a number y is let where h has a greater power.
        grid = ((Y, ()), ((), ONE))
        self.assert_same(is_dependent(3, grid, ((None, X, ((0, 2, 1),)), (Y, ()))), True)
        self.assert_same(is_dependent(3, grid, ((None, X, ((0, 2, 1),)), (ONE, ()))), False)
        self.assert_same(is_dependent(3, grid, ((None, X, Y), (ONE, ()))), True)
        grid = ((X, ()), ((), ONE))
        self.assert_same(is_dependent(3, grid, ((None, ((2, 0, 1),), Y), (X, ()))), True)
        self.assert_same(is_dependent(3, grid, ((None, ((2, 0, 1),), Y), (((2, 0, 1),), ()))), False)
        self.assert_same(is_dependent(3, grid, ((None, ((2, 0, 1),), Y), (((1, 1, 1),), ()))), False)
        self.assert_same(is_dependent(3, ((X, Y), (Y, X)), ((None, ((0, 0, 1), (1, 0, 1)), ((0, 0, 2), (0, 1, 1))),
                                                            (ONE, ONE))), True)

    def test_high_powers_on_the_way(self):
        h = ((0, 1, 1), (999, 0, 2))
        grid = ((((0, 3, 1),), ((999, 999, 1),)),)
        self.assert_same(is_dependent(3, grid, ((None, ((999, 0, 1),), h), (ONE,))), True)
        self.assert_same(is_dependent(3, grid, ((None, ((0, 0, 2), (1, 0, 1)), h), (ONE,))), False)
        # Turned, these have powers of y up to 8991 and 1008.
        grid = ((((999, 0, 1),), ((1, 999, 1),)),)
        self.assert_same(is_dependent(3, grid, ((("slide", 9), X, Y), (ONE,))), True)
        self.assert_same(is_dependent(3, (grid[0], (Y, ONE)), ((("slide", 9), X, Y), ((), ONE))), False)

    def test_judged(self):
        names = ("prime", "grid", "thing")
        for prime in PRIMES:
            bads = [(BadPrime, NO_PRIMES), (BadGrid, no_grids(prime)), None]
            self.assert_judged(is_dependent, names, (prime, SECOND, ((None, X, Y), (ONE, ()))), bads)
            self.assert_judged(is_dependent, names, (prime, SECOND, 0), [(BadPrime, NO_PRIMES), None, None])


if __name__ == "__main__":
    unittest.main()
