"""Point 52: rowsfilled/kinds.py."""

import itertools
import random
import unittest

from rowsfilled.errors import BadFold, BadPrime, BadStrip, NotOnes
from rowsfilled.kinds import is_fold, led_fold, led_strip, rank_of, straightened
from rowsfilled.minors import grid_by
from rowsfilled.moving import inverse, table_product, unit
from rowsfilled.ones import ones
from tests.judging import JudgingCase
from tests.reference import determinant_slowly, diagonal, product, product_of_tables, scaled, summed
from tests.samples import (
    NO_PRIMES, ONE, PRIMES, X, Y, drawn_grid, led_table, low_rows_to_one, nested, no_strips, no_tables, x_poly,
)
from tests.test_several import FIRST, FOUR, LOST, strips_to_one

HAND = ((ONE, Y), ((), ()))


def rest_of(prime, fold):
    """The unit table less the fold."""
    rows = []
    for one, held in zip(diagonal(len(fold), len(fold)), fold):
        rows.append(tuple(summed(prime, first, scaled(prime, -1, second)) for first, second in zip(one, held)))
    return tuple(rows)


def drawn_fold(source, prime, size, rank, steps=2, most_power=1, most_terms=2):
    """A table of determinant 1, the diagonal of this rank, and the inverse table."""
    table = led_table(source, prime, size, steps, most_power, most_terms)
    return product_of_tables(prime, product_of_tables(prime, table, diagonal(size, rank)), inverse(prime, table))


def is_low(fold):
    return all(i + j <= 2 for row in fold for poly in row for i, j, _ in poly)


def low_folds(source, prime, rank, many):
    """Folds of three rows without terms of i + j above 2."""
    found = []
    while len(found) < many:
        fold = drawn_fold(source, prime, 3, rank, source.randint(1, 4), 1, source.choice((1, 2, 3)))
        if is_low(fold):
            found.append(fold)
    return found


def folds(source, prime, many):
    """Pairs (rank, fold) of two and of three rows, of each rank."""
    found = []
    for rank in range(3):
        found += [(rank, drawn_fold(source, prime, 2, rank, source.randint(1, 4))) for _ in range(many)]
    for rank in range(4):
        found += [(rank, fold) for fold in low_folds(source, prime, rank, many)]
    return found


HIGH_FOLD = ((ONE, ((2, 1, 1),), ()), ((), (), ()), ((), (), ()))


class LedStripTest(JudgingCase):

    def check(self, prime, one, other):
        table = led_strip(prime, one, other)
        self.assertIs(table.__class__, tuple)
        self.assertEqual(len(table), len(one) + 1)
        self.assert_same(determinant_slowly(prime, table), ONE)
        self.assert_same(grid_by(prime, one, table), other)
        return table

    def test_drawn(self):
        for prime in PRIMES:
            source = random.Random(prime)
            for size in (3, 4):
                strips = strips_to_one(source, prime, size, 10) + [FIRST if size == 3 else FOUR]
                for one, other in zip(strips, strips[1:] + strips[:1]):
                    table = self.check(prime, one, other)
                    powers = [max(i, j) for row in table for poly in row for i, j, _ in poly]
                    self.assertLess(max(powers), 200)
                self.check(prime, strips[0], strips[0])
                unit_strip = unit(prime, size)[:-1]
                self.check(prime, strips[1], unit_strip)
                self.check(prime, unit_strip, strips[1])
                mixed = tuple(zip(*source.sample(list(zip(*strips[2])), size)))
                self.check(prime, strips[2], mixed)

    def test_limit(self):
        # The first row of each such table is that of other, less x ** 600 times its second one.
        one = ((ONE, ((600, 0, 1),), ()), ((), ONE, ()))
        self.assert_too_many(999, led_strip, 2, one, ((ONE, (), ()), (((600, 0, 1),), ONE, ())))
        self.check(2, one, ((ONE, (), ()), (((399, 0, 1),), ONE, ())))

    def test_errors_in_sequence(self):
        for prime in PRIMES:
            for other in (None, FIRST, LOST, FOUR, nested("list", 80)):
                self.assert_refused(NotOnes, led_strip, prime, LOST, other)
                self.assert_refused(BadStrip, led_strip, prime, FIRST[:1], other)
            for other in (FOUR, None, list(FIRST), FIRST[:1], unit(prime, 3)):
                self.assert_refused(BadStrip, led_strip, prime, FIRST, other)
            for other in (FIRST, None, list(FOUR), FOUR[:2], unit(prime, 4)):
                self.assert_refused(BadStrip, led_strip, prime, FOUR, other)
            self.assert_refused(NotOnes, led_strip, prime, FIRST, LOST)
            self.assert_refused(NotOnes, led_strip, prime, FIRST, (((), (), ()), ((), (), ())))
            self.assert_refused(NotOnes, led_strip, prime, FOUR, FOUR[:2] + FOUR[:1])

    def test_judged(self):
        names = ("prime", "one", "other")
        for prime in PRIMES:
            bads = [(BadPrime, NO_PRIMES), (BadStrip, no_strips(prime)), (BadStrip, no_strips(prime, ((2, 3),)))]
            self.assert_judged(led_strip, names, (prime, FIRST, ((ONE, (), ()), ((), ONE, ()))), bads)
            bads = [(BadPrime, NO_PRIMES), (BadStrip, no_strips(prime)), (BadStrip, no_strips(prime, ((3, 4),)))]
            self.assert_judged(led_strip, names, (prime, FOUR, unit(prime, 4)[:3]), bads)


class IsFoldTest(JudgingCase):

    def test_by_hand(self):
        self.assert_same(is_fold(2, HAND), True)
        self.assert_same(rank_of(2, HAND), 1)
        self.assert_same(table_product(2, HAND, ((ONE, Y), ((), ONE))), ((ONE, ()), ((), ())))

    def test_drawn(self):
        for prime in PRIMES:
            source = random.Random(prime)
            for rank, fold in folds(source, prime, 4):
                self.assert_same(is_fold(prime, fold), True)
                self.assert_same(is_fold(prime, rest_of(prime, fold)), True)
                bigger = tuple(tuple(product(prime, X, poly) for poly in row) for row in fold)
                self.assert_same(is_fold(prime, bigger), rank == 0)
                twice = tuple(tuple(summed(prime, poly, poly) for poly in row) for row in fold)
                self.assert_same(is_fold(prime, twice), rank == 0 or prime == 2)
            for size in (2, 3):
                for _ in range(10):
                    table = drawn_grid(source, prime, size, size, 1, 1)
                    self.assert_same(is_fold(prime, table), product_of_tables(prime, table, table) == table)

    def test_values_of_every_kind(self):
        true = ((0, 0, True),)
        for prime in PRIMES:
            wrong = no_tables(prime, (2, 3)) + [
                list(HAND), [list(row) for row in HAND], (list(HAND[0]), HAND[1]), ((true, ()), ((), ())), HAND[:1],
                ((true, true), ((), ())), ((ONE, true), ((), ())), ((X, ()), ((), ())), ((), ONE),
                ((ONE, ONE), (ONE, ONE)), (((), ONE), ((), ())), dict(enumerate(HAND)), nested("tuple", 80), ((ONE,),),
                (((),),), ((ONE, ()), ((), X)),
            ]
            for value in wrong:
                self.assert_same(is_fold(prime, value), False)
        # 1 and 1 added make 2: only in halves is such a table a fold.
        self.assert_same(is_fold(3, ((((0, 0, 2),),) * 2,) * 2), True)

    def test_four_rows_are_none(self):
        for prime in PRIMES:
            for rank in range(5):
                self.assert_same(is_fold(prime, diagonal(4, rank)), False)
                self.assert_refused(BadFold, rank_of, prime, diagonal(4, rank))
                self.assert_refused(BadFold, straightened, prime, diagonal(4, rank))

    def test_high_powers(self):
        high = ((999, 999, 1),)
        self.assert_same(is_fold(2, ((ONE, high), ((), ()))), True)
        self.assert_same(is_fold(2, ((ONE, high), (high, ()))), False)
        self.assert_same(is_fold(2, ((high, high), (high, high))), False)

    def test_judged(self):
        for prime in PRIMES:
            self.assert_judged(is_fold, ("prime", "thing"), (prime, HAND), [(BadPrime, NO_PRIMES), None])
            self.assert_judged(is_fold, ("prime", "thing"), (prime, None), [(BadPrime, NO_PRIMES), None])


def no_folds(prime, sizes=(2, 3)):
    """Values that are no folds of so many rows."""
    found = no_tables(prime, sizes) + [((X, ()), ((), ())), ((ONE, ()), (X, X)), diagonal(4, 2), (((), ONE), ((), ()))]
    for size in (2, 3):
        if size not in sizes:
            found += [diagonal(size, rank) for rank in range(size + 1)]
    return [value for value in found if not is_fold_slowly(prime, value, sizes)]


def is_fold_slowly(prime, value, sizes):
    if not isinstance(value, tuple) or len(value) not in sizes:
        return False
    return is_fold(prime, value)


class RankTest(JudgingCase):

    def test_drawn(self):
        for prime in PRIMES:
            source = random.Random(prime + 1)
            for rank, fold in folds(source, prime, 6):
                self.assert_same(rank_of(prime, fold), rank)
                self.assert_same(rank_of(prime, rest_of(prime, fold)), len(fold) - rank)

    def test_numbers_at_some_places(self):
        for prime in PRIMES:
            self.assert_same(rank_of(prime, ((ONE, X), ((), ()))), 1)
            self.assert_same(rank_of(prime, (((), Y), ((), ONE))), 1)
            self.assert_same(rank_of(prime, ((ONE, ()), (((1, 1, 1),), ()))), 1)
            # 1 + x and -x: the number 1 stands beside x.
            fold = ((((0, 0, 1), (1, 0, 1)), X), (scaled(prime, -1, ((0, 0, 1), (1, 0, 1))), scaled(prime, -1, X)))
            self.assert_same(is_fold(prime, fold), True)
            self.assert_same(rank_of(prime, fold), 1)
            minus = ((0, 0, prime - 1),)
            self.assert_same(rank_of(prime, ((ONE, ONE, ()), ((), (), ()), ((), (), ONE))), 2)
            self.assert_same(rank_of(prime, ((ONE, (), X), ((), ONE, Y), ((), (), ()))), 2)
            self.assert_same(rank_of(prime, (((), (), X), ((), (), Y), ((), (), ONE))), 1)
            self.assert_same(rank_of(prime, ((ONE, (), ()), (minus, (), ()), ((), (), ()))), 1)

    def test_all_folds_of_numbers(self):
        # In a field of p members there are p * (p + 1) folds of two rows and of rank 1.
        for prime in (2, 3):
            numbers = [()] + [((0, 0, c),) for c in range(1, prime)]
            ranks = {}
            for a, b, c, d in itertools.product(numbers, repeat=4):
                if is_fold(prime, ((a, b), (c, d))):
                    rank = rank_of(prime, ((a, b), (c, d)))
                    ranks[rank] = ranks.get(rank, 0) + 1
            self.assertEqual(ranks, {0: 1, 1: prime * (prime + 1), 2: 1})

    def test_judged(self):
        for prime in PRIMES:
            bads = [(BadPrime, NO_PRIMES), (BadFold, no_folds(prime))]
            self.assert_judged(rank_of, ("prime", "fold"), (prime, HAND), bads)
            self.assert_judged(straightened, ("prime", "fold"), (prime, HAND), bads)


class StraightenedTest(JudgingCase):

    def check(self, prime, fold, rank):
        table = straightened(prime, fold)
        self.assertIs(table.__class__, tuple)
        self.assert_same(determinant_slowly(prime, table), ONE)
        straight = product_of_tables(prime, table, diagonal(len(fold), rank))
        self.assert_same(product_of_tables(prime, fold, table), straight)
        return table

    def test_by_hand(self):
        self.check(2, HAND, 1)

    def test_drawn(self):
        for prime in PRIMES:
            source = random.Random(prime + 2)
            for rank, fold in folds(source, prime, 8):
                self.check(prime, fold, rank)
                self.check(prime, rest_of(prime, fold), len(fold) - rank)

    def test_columns_times_rows(self):
        told = 0
        for prime in PRIMES:
            source = random.Random(prime + 3)
            for row in low_rows_to_one(source, prime, 3, 30):
                column = ones(prime, row)
                fold = tuple(tuple(product(prime, entry, poly) for poly in row) for entry in column)
                if is_low(fold):
                    told += 1
                    self.check(prime, fold, 1)
                    self.check(prime, rest_of(prime, fold), 2)
        self.assertGreater(told, 20)

    def test_two_rows_of_high_powers(self):
        for prime in PRIMES:
            source = random.Random(prime + 4)
            for _ in range(6):
                rank = source.randint(0, 2)
                self.check(prime, drawn_fold(source, prime, 2, rank, 4, 3, 3), rank)
            high = ((999, 999, 1),)
            self.check(prime, ((ONE, high), ((), ())), 1)
            self.check(prime, (((), ()), (high, ONE)), 1)

    def test_two_rows_of_x_polys_up_to_40(self):
        for prime in PRIMES:
            source = random.Random(prime + 5)
            one = x_poly([source.randrange(prime) for _ in range(20)])
            table = ((ONE, one), ((), ONE))
            other = x_poly([source.randrange(prime) for _ in range(10)])
            table = product_of_tables(prime, table, ((ONE, ()), (other, ONE)))
            fold = product_of_tables(prime, product_of_tables(prime, table, diagonal(2, 1)), inverse(prime, table))
            found = self.check(prime, fold, 1)
            self.assertLess(max(i for row in found for poly in row for i, _, _ in poly), 100)

    def test_too_high(self):
        for prime in PRIMES:
            for i, j in ((3, 0), (0, 3), (2, 1), (1, 2), (2, 2), (999, 0)):
                fold = ((ONE, ((i, j, 1),), ()), ((), (), ()), ((), (), ()))
                self.assert_same(is_fold(prime, fold), True)
                self.assert_too_many(2, straightened, prime, fold)
                self.assert_too_many(2, straightened, prime, rest_of(prime, fold))
                self.assert_same(rank_of(prime, fold), 1)
                self.check(prime, tuple(row[:2] for row in fold[:2]), 1)
            for i, j in ((2, 0), (0, 2), (1, 1)):
                self.check(prime, ((ONE, (), ((i, j, 1),)), ((), ONE, ()), ((), (), ())), 2)
            self.assert_refused(BadFold, straightened, prime, ((((3, 0, 1),), (), ()), ((), (), ()), ((), (), ())))


class LedFoldTest(JudgingCase):

    def check(self, prime, one, other):
        table = led_fold(prime, one, other)
        if table is None:
            return False
        self.assertIs(table.__class__, tuple)
        self.assert_same(determinant_slowly(prime, table), ONE)
        self.assert_same(product_of_tables(prime, one, table), product_of_tables(prime, table, other))
        return True

    def test_drawn(self):
        for prime in PRIMES:
            source = random.Random(prime + 6)
            lots = folds(source, prime, 3)
            for rank, one in lots:
                for other_rank, other in lots:
                    if len(one) == len(other):
                        self.assertEqual(self.check(prime, one, other), rank == other_rank)

    def test_limit(self):
        # c + x ** 1200 divided by c stands in each such table.
        for prime in PRIMES:
            one, other = ((ONE, ((600, 0, 1),)), ((), ())), ((ONE, ()), (((600, 0, 1),), ()))
            self.assert_too_many(999, led_fold, prime, one, other)
            self.assertTrue(self.check(prime, one, ((ONE, ()), (((399, 0, 1),), ()))))

    def test_none_is_told_as_none(self):
        for size in (2, 3):
            for one, other in itertools.permutations(range(size + 1), 2):
                self.assertIsNone(led_fold(2, diagonal(size, one), diagonal(size, other)))

    def test_errors_in_sequence(self):
        for prime in PRIMES:
            low = diagonal(3, 2)
            for other in (HAND, None, [], ((X, ()), ((), ())), diagonal(4, 1), nested("tuple", 80)):
                self.assert_refused(BadFold, led_fold, prime, low, other)
                self.assert_refused(BadFold, led_fold, prime, HIGH_FOLD, other)
            for other in (low, None, [], diagonal(3, 1), HIGH_FOLD):
                self.assert_refused(BadFold, led_fold, prime, HAND, other)
                self.assert_refused(BadFold, led_fold, prime, None, other)
            for rank in range(4):
                self.assert_too_many(2, led_fold, prime, HIGH_FOLD, diagonal(3, rank))
                self.assert_too_many(2, led_fold, prime, diagonal(3, rank), HIGH_FOLD)

    def test_judged(self):
        for prime in PRIMES:
            bads = [(BadPrime, NO_PRIMES), (BadFold, no_folds(prime)), (BadFold, no_folds(prime, (2,)))]
            self.assert_judged(led_fold, ("prime", "one", "other"), (prime, HAND, diagonal(2, 1)), bads)
            bads = [(BadPrime, NO_PRIMES), (BadFold, no_folds(prime)), (BadFold, no_folds(prime, (3,)))]
            self.assert_judged(led_fold, ("prime", "one", "other"), (prime, diagonal(3, 1), diagonal(3, 1)), bads)


if __name__ == "__main__":
    unittest.main()
