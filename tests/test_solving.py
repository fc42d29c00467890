"""Point 45: rowsfilled/solving.py."""

import random
import unittest

from rowsfilled.errors import BadBasis, BadColumn, BadPrime, BadRow, Lost
from rowsfilled.filling import filled, is_opened, opened
from rowsfilled.moving import inverse, table_product
from rowsfilled.ones import ones
from rowsfilled.solving import basis, is_basis, is_led, is_solution, led, parts_of
from tests.judging import JudgingCase
from tests.reference import determinant_slowly, product, scaled, summed, summed_products
from tests.samples import (
    NO_PRIMES, ONE, PRIMES, STRANGE, X, Y, drawn_low_row, drawn_poly, drawn_row, led_table, low_rows_to_one, nested,
    no_polys, no_rows, no_tables,
)

X_AND_ONE = ((0, 0, 1), (1, 0, 1))
ROW = (Y, X, X_AND_ONE)
LOST_ROW = (Y, X, ((1, 1, 1),))
HIGH_ROW = (Y, X, ((1, 2, 1),))
BASIS = ((ONE, Y, Y), ((), X_AND_ONE, X))
NO_BASIS = ((X, Y, ()), (X_AND_ONE, (), Y))


def added_up(prime, parts, columns):
    """The sum of the columns, each times its part."""
    return tuple(summed_products(prime, parts, entries) for entries in zip(*columns))


def times_all(prime, poly, column):
    return tuple(product(prime, poly, entry) for entry in column)


def drawn_solution(source, prime, row):
    """A sum of multiples of the columns with two entries of the row, exchanged, the sign of one turned."""
    columns = []
    for i in range(len(row)):
        for j in range(i):
            column = [()] * len(row)
            column[i], column[j] = row[j], scaled(prime, -1, row[i])
            columns.append(tuple(column))
    return added_up(prime, [drawn_poly(source, prime, 2, 3) for _ in columns], columns)


def no_columns(prime, size):
    """Values that are no tuples of so many polys."""
    return no_rows(prime, (size,))


class IsSolutionTest(JudgingCase):

    def test_by_hand(self):
        for column in NO_BASIS + BASIS + (((), (), ()), (X_AND_ONE, X_AND_ONE, summed(2, X, Y))):
            self.assert_same(is_solution(2, ROW, column), True)
        for column in [ROW, (ONE, (), ()), (X, Y, ONE), (Y, Y, ONE)]:
            self.assert_same(is_solution(2, ROW, column), False)

    def test_drawn(self):
        for prime in PRIMES:
            source = random.Random(prime)
            for size in (2, 3, 4):
                for _ in range(20):
                    row = drawn_row(source, prime, size)
                    column = drawn_solution(source, prime, row)
                    self.assert_same(is_solution(prime, row, column), True)
                    other = drawn_row(source, prime, size)
                    self.assert_same(is_solution(prime, row, other), summed_products(prime, row, other) == ())

    def test_values_of_every_kind(self):
        for prime in PRIMES:
            row = (Y, X)
            good = (X, scaled(prime, -1, Y))
            self.assert_same(is_solution(prime, row, good), True)
            wrong = no_columns(prime, 2) + [list(good), good + ((),), good[:1], dict(enumerate(good))]
            wrong += [(value, ()) for value in no_polys(prime)] + [nested("tuple", 80), (list(X), good[1])]
            for value in wrong:
                self.assert_same(is_solution(prime, row, value), False)
            self.assert_same(is_solution(prime, ((), ()), (((0, 0, True),), ())), False)
            self.assert_same(is_solution(prime, ((), ()), (ONE, ())), True)

    def test_high_powers(self):
        high = ((999, 999, 1),)
        self.assert_same(is_solution(2, (high, high), (high, high)), True)
        self.assert_same(is_solution(2, (high, high), (high, X)), False)

    def test_judged(self):
        for prime in PRIMES:
            names = ("prime", "row", "thing")
            bads = [(BadPrime, NO_PRIMES), (BadRow, no_rows(prime)), None]
            self.assert_judged(is_solution, names, (prime, ROW, BASIS[0]), bads)
            self.assert_judged(is_solution, names, (prime, (X, Y), None), [(BadPrime, NO_PRIMES), None, None])


class BasisTest(JudgingCase):

    def check(self, prime, row):
        """Whether the row comes to 1; just then it has a basis."""
        found = basis(prime, row)
        column = ones(prime, row)
        self.assertEqual(found is None, column is None, (prime, row))
        if found is None:
            self.assert_refused(Lost, is_basis, prime, row, None)
            return False
        self.assertIs(found.__class__, tuple)
        self.assertEqual(len(found), len(row) - 1)
        for held in found:
            self.assertIs(held.__class__, tuple)
            self.assertEqual(len(held), len(row))
            self.assert_same(summed_products(prime, row, held), ())
        whole = determinant_slowly(prime, (column,) + found)
        self.assertEqual([term[:2] for term in whole], [(0, 0)])
        self.assert_same(is_basis(prime, row, found), True)
        return True

    def test_by_hand(self):
        self.assertTrue(self.check(2, ROW))
        self.assert_same(is_basis(2, ROW, BASIS), True)
        self.assert_same(is_basis(2, ROW, NO_BASIS), False)
        self.assert_same(parts_of(2, ROW, BASIS, NO_BASIS[0]), (X, Y))
        # y times (0, 1 + x, x) is (1 + x) times the first and x times the second one.
        self.assert_same(added_up(2, (X_AND_ONE, X), NO_BASIS), times_all(2, Y, BASIS[1]))

    def test_drawn(self):
        for prime in PRIMES:
            source = random.Random(prime)
            for size, many in ((2, 12), (3, 40), (4, 25)):
                for row in low_rows_to_one(source, prime, size, many):
                    self.assertTrue(self.check(prime, row))
            told = [0, 0]
            for size in (2, 3, 4):
                for _ in range(30):
                    told[self.check(prime, drawn_low_row(source, prime, size, source.choice((1, 2, 5))))] += 1
            self.assertGreater(min(told), 15)

    def test_columns_of_opened_tables(self):
        for prime in PRIMES:
            source = random.Random(prime + 1)
            for size in (2, 3, 4):
                for row in low_rows_to_one(source, prime, size, 6):
                    for table in (opened(prime, row), inverse(prime, filled(prime, row))):
                        self.assert_same(is_basis(prime, row, tuple(zip(*table))[1:]), True)

    def test_values_of_every_kind(self):
        for prime in PRIMES:
            source = random.Random(prime + 2)
            for size in (2, 3, 4):
                for row in low_rows_to_one(source, prime, size, 3):
                    self.check_wrong_ones(prime, row, basis(prime, row))

    def check_wrong_ones(self, prime, row, good):
        column = ones(prime, row)
        minus = ((0, 0, prime - 1),)
        self.assert_same(is_basis(prime, row, good), True)
        self.assert_same(is_basis(prime, row, good[::-1]), True)
        self.assert_same(is_basis(prime, row, (times_all(prime, minus, good[0]),) + good[1:]), True)
        wrong = list(STRANGE) + [
            (), good[:-1], good + good[:1], list(good), [list(held) for held in good],
            tuple(list(held) for held in good),
            (times_all(prime, X, good[0]),) + good[1:], good[:-1] + (times_all(prime, X_AND_ONE, good[-1]),),
            good[:-1] + (column,), good[:-1] + (((),) * len(row),), good[:-1] + (good[-1][:-1],),
            good[:-1] + (good[-1] + ((),),), good[:-1] + (None,), good[:-1] + (True,), dict(enumerate(good)),
            good[:-1] + ((((0, 0, True),),) * len(row),), row, (row,) * (len(row) - 1), nested("tuple", 80),
            good[:-1] + (nested("tuple", 79),), good[:-1] + ((nested("list", 78),) * len(row),),
        ]
        if len(row) > 2:
            wrong.append(good[:1] * (len(row) - 1))
        for value in wrong:
            self.assert_same(is_basis(prime, row, value), False)
            self.assert_refused(BadBasis, parts_of, prime, row, value, good[0])

    def test_other_bases(self):
        # A basis by a table of determinant one is a basis again.
        for prime in PRIMES:
            source = random.Random(prime + 3)
            for size in (3, 4):
                for row in low_rows_to_one(source, prime, size, 4):
                    good = basis(prime, row)
                    table = led_table(source, prime, size - 1)
                    self.assert_same(is_basis(prime, row, tuple(added_up(prime, parts, good) for parts in table)), True)

    def test_true_among_terms(self):
        true = ((0, 0, True),)
        self.assert_same(is_basis(2, (ONE, ()), (((), ONE),)), True)
        self.assert_same(is_basis(2, (ONE, ()), (((), true),)), False)
        self.assert_same(is_basis(2, (ONE, ()), (((), ((0, False, 1),)),)), False)

    def test_errors_in_sequence(self):
        for thing in (None, BASIS, nested("list", 80)):
            self.assert_too_many(2, is_basis, 2, HIGH_ROW, thing)
            self.assert_too_many(2, is_basis, 2, (((3, 0, 1),), X), thing)
            self.assert_refused(Lost, is_basis, 2, LOST_ROW, thing)
            self.assert_refused(Lost, is_basis, 2, ((), ()), thing)
        self.assert_too_many(2, basis, 2, HIGH_ROW)
        self.assert_too_many(2, basis, 2, (ONE, ((1, 2, 1),)))
        self.assert_same(basis(2, LOST_ROW), None)
        self.assert_refused(BadRow, basis, 2, list(HIGH_ROW))
        self.assert_refused(BadRow, is_basis, 2, HIGH_ROW + (True,), None)

    def test_judged(self):
        for prime in PRIMES:
            bads = [(BadPrime, NO_PRIMES), (BadRow, no_rows(prime))]
            self.assert_judged(basis, ("prime", "row"), (prime, ROW), bads)
            self.assert_judged(is_basis, ("prime", "row", "thing"), (prime, ROW, basis(prime, ROW)), bads + [None])


class PartsOfTest(JudgingCase):

    def test_just_these(self):
        for prime in PRIMES:
            source = random.Random(prime)
            for size in (2, 3, 4):
                for row in low_rows_to_one(source, prime, size, 8):
                    columns = basis(prime, row)
                    number = ((0, 0, source.randint(1, prime - 1)),)
                    columns = (times_all(prime, number, columns[0]),) + columns[1:]
                    parts = tuple(drawn_poly(source, prime, 3, 4) for _ in columns)
                    column = added_up(prime, parts, columns)
                    self.assert_same(parts_of(prime, row, columns, column), parts)
                    column = drawn_solution(source, prime, row)
                    found = parts_of(prime, row, columns, column)
                    self.assertIs(found.__class__, tuple)
                    self.assertEqual(len(found), size - 1)
                    self.assert_same(added_up(prime, found, columns), column)

    def test_of_the_columns(self):
        for prime in PRIMES:
            source = random.Random(prime + 1)
            for size in (2, 3, 4):
                for row in low_rows_to_one(source, prime, size, 3):
                    columns = basis(prime, row)
                    for k, column in enumerate(columns):
                        unit = tuple(ONE if m == k else () for m in range(size - 1))
                        self.assert_same(parts_of(prime, row, columns, column), unit)
                    self.assert_same(parts_of(prime, row, columns, ((),) * size), ((),) * (size - 1))

    def test_high_columns(self):
        # (0, 1) is a basis of (1, 0); the parts of a column are its second entry.
        high = ((999, 999, 1),)
        self.assert_same(parts_of(2, (ONE, ()), (((), ONE),), ((), high)), (high,))
        self.assert_same(parts_of(2, (ONE, X), ((X, ONE),), (((999, 0, 1),), ((998, 0, 1),))), (((998, 0, 1),),))
        self.assert_refused(BadColumn, parts_of, 2, (ONE, X), ((X, ONE),), (((999, 0, 1),), ((999, 0, 1),)))

    def test_limit_of_parts(self):
        # (0, 1, 0), (0, x, 1) is a basis; (0, 0, x ** 999) is x ** 1000 and x ** 999 of them.
        row = (ONE, (), ())
        columns = (((), ONE, ()), ((), X, ONE))
        self.assert_same(parts_of(2, row, columns, ((), (), ((998, 0, 1),))), (((999, 0, 1),), ((998, 0, 1),)))
        self.assert_too_many(999, parts_of, 2, row, columns, ((), (), ((999, 0, 1),)))
        self.assert_refused(BadColumn, parts_of, 2, row, columns, (ONE, (), ((999, 0, 1),)))

    def test_errors_in_sequence(self):
        solution = BASIS[0]
        wrong = [None, [], True, LOST_ROW, nested("list", 80)]
        for value in wrong + [BASIS]:
            for column in wrong + [solution]:
                self.assert_too_many(2, parts_of, 2, HIGH_ROW, value, column)
                self.assert_refused(Lost, parts_of, 2, LOST_ROW, value, column)
                self.assert_refused(BadRow, parts_of, 2, list(HIGH_ROW), value, column)
        for column in wrong + [solution]:
            for value in wrong + [NO_BASIS, BASIS[:1], list(BASIS)]:
                self.assert_refused(BadBasis, parts_of, 2, ROW, value, column)
        for column in wrong + [ROW, (ONE, (), ()), list(solution)]:
            self.assert_refused(BadColumn, parts_of, 2, ROW, BASIS, column)

    def test_judged(self):
        for prime in PRIMES:
            names = ("prime", "row", "columns", "column")
            columns = basis(prime, ROW)
            no_solutions = no_columns(prime, 3) + [(ONE, (), ()), ((), ONE, ()), (X, Y, ONE)]
            no_bases = list(STRANGE) + [columns[:1], list(columns), columns + columns, (columns[0], columns[0])]
            bads = [(BadPrime, NO_PRIMES), (BadRow, no_rows(prime)), (BadBasis, no_bases), (BadColumn, no_solutions)]
            self.assert_judged(parts_of, names, (prime, ROW, columns, columns[0]), bads)


class LedTest(JudgingCase):

    def check(self, prime, row, other):
        table = led(prime, row, other)
        self.assertEqual(table is None, ones(prime, other) is None)
        if table is None:
            return False
        self.assertIs(table.__class__, tuple)
        self.assert_same(determinant_slowly(prime, table), ONE)
        self.assert_same(tuple(summed_products(prime, row, column) for column in zip(*table)), other)
        self.assert_same(is_led(prime, row, other, table), True)
        self.assert_same(is_led(prime, other, row, inverse(prime, table)), True)
        return True

    def test_drawn_pairs(self):
        for prime in PRIMES:
            source = random.Random(prime)
            told = [0, 0]
            for size, many in ((2, 10), (3, 30), (4, 20)):
                for row in low_rows_to_one(source, prime, size, many):
                    self.assertTrue(self.check(prime, row, low_rows_to_one(source, prime, size, 1)[0]))
                    self.assertTrue(self.check(prime, row, row))
                    first = (ONE,) + ((),) * (size - 1)
                    self.assertTrue(self.check(prime, row, first))
                    self.assert_same(is_opened(prime, row, led(prime, row, first)), True)
                    self.assertTrue(self.check(prime, first, row))
                    told[self.check(prime, row, drawn_low_row(source, prime, size, 3))] += 1
            self.assertGreater(min(told), 4)

    def test_one_after_another(self):
        for prime in PRIMES:
            source = random.Random(prime + 1)
            for size in (2, 3, 4):
                one, other, third = low_rows_to_one(source, prime, size, 3)
                table = table_product(prime, led(prime, one, other), led(prime, other, third))
                self.assert_same(is_led(prime, one, third, table), True)

    def test_errors_in_sequence(self):
        for prime in PRIMES:
            high = (ONE, ((3, 0, 1),), Y)
            other_sizes = [(ONE, X), (ONE, X, Y, ()), (ONE,), ()]
            for other in other_sizes + [None, list(ROW)]:
                self.assert_refused(BadRow, led, prime, ROW, other)
                self.assert_refused(BadRow, led, prime, high, other)
                self.assert_refused(BadRow, led, prime, LOST_ROW, other)
                self.assert_refused(BadRow, is_led, prime, ROW, other, None)
            for other in (high, (ONE, Y, ((1, 2, 1),))):
                self.assert_too_many(2, led, prime, ROW, other)
                self.assert_too_many(2, led, prime, LOST_ROW, other)
                self.assert_too_many(2, led, prime, other, ROW)
                self.assert_too_many(2, led, prime, other, LOST_ROW)
            for other in (ROW, LOST_ROW, ((), (), ())):
                self.assert_refused(Lost, led, prime, LOST_ROW, other)
                self.assert_refused(Lost, led, prime, ((), (), ()), other)
            self.assert_same(led(prime, ROW, LOST_ROW), None)
            self.assert_same(led(prime, ROW, ((), (), ())), None)

    def test_judged(self):
        for prime in PRIMES:
            bads = [(BadPrime, NO_PRIMES), (BadRow, no_rows(prime)), (BadRow, no_rows(prime, (3,)))]
            self.assert_judged(led, ("prime", "row", "other"), (prime, ROW, (X, ONE, ())), bads)
            bads = [(BadPrime, NO_PRIMES), (BadRow, no_rows(prime)), (BadRow, no_rows(prime, (2,))), None]
            names = ("prime", "row", "other", "thing")
            self.assert_judged(is_led, names, (prime, (X, ONE), (X, ONE), ((ONE, ()), ((), ONE))), bads)


class IsLedTest(JudgingCase):

    def test_values_of_every_kind(self):
        for prime in PRIMES:
            row, other = (X, ONE), (X, X_AND_ONE)
            good = ((ONE, ONE), ((), ONE))
            self.assert_same(is_led(prime, row, other, good), True)
            true = ((0, 0, True),)
            wrong = no_tables(prime, (2,)) + [
                list(good), [list(held) for held in good], (list(good[0]), good[1]), ((true, ONE), ((), ONE)),
                ((ONE, ONE), ((), true)), ((ONE, ()), ((), ONE)), good[:1], good + good, None, dict(enumerate(good)),
                ((ONE, ONE, ()), ((), ONE, ()), ((), (), ONE)), ((ONE, ((0, 0, 1),)), ((), ())),
            ]
            for value in wrong:
                self.assert_same(is_led(prime, row, other, value), False)

    def test_other_determinants(self):
        for prime in (3, 5, 7):
            minus = ((0, 0, prime - 1),)
            self.assert_same(is_led(prime, (ONE, ()), (ONE, X), ((ONE, X), ((), ONE))), True)
            self.assert_same(is_led(prime, (ONE, ()), (ONE, X), ((ONE, X), ((), minus))), False)
            self.assert_same(is_led(prime, (ONE, ()), (ONE, X), ((ONE, X), (X, ONE))), False)

    def test_rows_of_every_kind(self):
        # Rows that come to nothing, or have high powers, are judged as well.
        high = ((999, 999, 1),)
        self.assert_same(is_led(2, ((), ()), ((), ()), ((ONE, X), ((), ONE))), True)
        self.assert_same(is_led(2, (X, Y), (X, Y), ((ONE, ()), ((), ONE))), True)
        self.assert_same(is_led(2, (X, Y), (X, ()), ((ONE, ()), ((), ONE))), False)
        self.assert_same(is_led(2, (high, ()), ((), high), (((), ONE), (ONE, ()))), True)
        # The row by the table would have the power 1000.
        self.assert_same(is_led(2, (high, ()), (high, high), ((ONE, X), ((), ONE))), False)
        self.assert_same(is_led(2, (high, high), (high, ()), ((ONE, ONE), ((), ONE))), True)


if __name__ == "__main__":
    unittest.main()
