"""Point 44, and the words at the head of Part 4: rowsfilled/filling.py."""

import itertools
import random
import unittest

from rowsfilled.coming import coming
from rowsfilled.errors import BadComing, BadPrime, BadRow, NotPlain
from rowsfilled.filling import filled, is_filled, is_opened, moves_of, opened, places_of
from rowsfilled.moving import inverse, moved_row, placed_row, row_by
from rowsfilled.ones import ones
from rowsfilled.zeros import common_spot
from tests.judging import JudgingCase
from tests.reference import determinant_slowly, is_plain_slowly, product, scaled, summed, summed_products
from tests.samples import (
    LOW_POWERS, NO_PRIMES, ONE, PRIMES, STRANGE, X, Y, drawn_low_row, led_table, low_rows_to_one, nested, no_rows,
    no_tables,
)
from tests.test_coming import COMING, ROW, not_plain_rows, plain_row

X_AND_ONE = ((0, 0, 1), (1, 0, 1))
# x times 1 and 1 times 1 + x come to 1 modulo 2; so do three tellings with 1, 1 + x + x ** 2 and x.
WITH_X = (((),), (X, (), ONE))
WITH_ONE = ((ONE,), (ONE, (), ONE))
COMINGS = [
    ([WITH_ONE], (ONE,)),
    ([WITH_X, WITH_ONE], (ONE, X_AND_ONE)),
    ([WITH_ONE, WITH_X], (X_AND_ONE, ONE)),
    ([WITH_X, WITH_ONE, WITH_X], (ONE, ((0, 0, 1), (1, 0, 1), (2, 0, 1)), X)),
    ([WITH_ONE, WITH_ONE, WITH_X, WITH_ONE], (X, ONE, X, ((1, 0, 1), (2, 0, 1)))),
    ((WITH_X, WITH_ONE), (ONE, X_AND_ONE)),
]


def places_slowly(prime, brought):
    places = [Y]
    for (_, telling), share in zip(*brought):
        places.append(summed(prime, places[-1], scaled(prime, -1, product(prime, share, telling[0], Y))))
    return places


def is_led_to_one(prime, row, table):
    found = tuple(summed_products(prime, row, column) for column in zip(*table))
    return found == (ONE,) + ((),) * (len(row) - 1)


class PlacesTest(JudgingCase):

    def check(self, prime, row, brought):
        places = places_of(prime, row, brought)
        self.assertIs(places.__class__, list)
        self.assert_same(places, places_slowly(prime, brought))
        self.assert_same(places[0], Y)
        self.assert_same(places[-1], ())
        self.assertEqual(len(places), len(brought[1]) + 1)
        moves = moves_of(prime, row, brought)
        self.assertIs(moves.__class__, list)
        expected = []
        for k, (mixing, telling) in enumerate(brought[0]):
            expected.append(moved_row(prime, row, mixing, telling, places[k], places[k + 1]))
        self.assert_same(moves, expected)
        held = row
        for move, place in zip(moves, places[1:]):
            self.assert_same(determinant_slowly(prime, move), ONE)
            held = row_by(prime, held, move)
            self.assert_same(held, placed_row(prime, row, place))
        self.assert_same(held, tuple(tuple(term for term in poly if term[1] == 0) for poly in row))
        return len(moves)

    def test_by_hand(self):
        self.assert_same(places_of(2, ROW, COMING), [Y, ()])
        self.assert_same(places_of(2, ROW, COMINGS[1]), [Y, ((0, 1, 1), (1, 1, 1)), ()])
        self.assert_same(places_of(2, ROW, COMINGS[2]), [Y, ((1, 1, 1),), ()])
        self.assert_same(places_of(2, ROW, COMINGS[3]), [Y, ((0, 1, 1), (1, 1, 1)), ((2, 1, 1),), ()])

    def test_one_two_and_three_tellings(self):
        for brought in COMINGS:
            self.check(2, ROW, brought)

    def test_comings_found(self):
        lengths = {}
        for prime in PRIMES:
            source = random.Random(prime)
            for size in (2, 3, 4):
                found = 0
                while found < 8:
                    row = plain_row(source, prime, size, source.choice((2, 4)))
                    brought = coming(prime, row)
                    if brought is not None:
                        many = self.check(prime, row, brought)
                        lengths[many] = lengths.get(many, 0) + 1
                        found += 1
        self.assertGreater(lengths.get(2, 0), 5)

    def test_comings_of_lots_of_factors(self):
        for prime in PRIMES:
            factors = [((0, 0, c), (1, 0, 1)) if c else X for c in range(2)] + [((0, 0, 1), (1, 0, 1), (2, 0, 1))]
            lots = [product(prime, *[poly for poly in factors if poly != held]) for held in factors]
            for first in (Y, ((0, 2, 1), (1, 1, 1), (2, 0, 1))):
                row = (first,) + tuple(lots)
                self.check(prime, row, coming(prime, row))

    def test_powers_up_to_three_are_told(self):
        # With all powers up to 3 in each entry the tables stay far below the limit.
        for prime in PRIMES:
            source = random.Random(prime + 1)
            for size in (3, 4):
                found = 0
                while found < 3:
                    row = plain_row(source, prime, size, 16)
                    brought = coming(prime, row)
                    if brought is not None:
                        moves = moves_of(prime, row, brought)
                        highest = max(max(i, j) for move in moves for held in move for poly in held for i, j, _ in poly)
                        self.assertLess(highest, 400)
                        found += 1

    def test_new_lists_each_time(self):
        places_of(2, ROW, COMING).append(1)
        moves_of(2, ROW, COMING).append(1)
        self.assertEqual(len(places_of(2, ROW, COMING)), 2)
        self.assertEqual(len(moves_of(2, ROW, COMING)), 1)

    def test_limit(self):
        def brought(power):
            # 1 and x times these shares come to 1; behind the first one y stands at x to the power.
            return [WITH_ONE, WITH_X], (((0, 0, 1), (power, 0, 1)), ((power - 1, 0, 1),))
        self.assert_same(places_of(2, ROW, brought(999)), [Y, ((999, 1, 1),), ()])
        self.assertEqual(len(moves_of(2, ROW, brought(999))), 2)
        # The second place is y + x ** 1000 * y.
        high = [WITH_X, WITH_ONE, WITH_X], (((999, 0, 1),), ONE, ((999, 0, 1),))
        self.assert_too_many(999, places_of, 2, ROW, high)
        self.assert_too_many(999, moves_of, 2, ROW, high)
        low = [WITH_X, WITH_ONE, WITH_X], (((998, 0, 1),), ONE, ((998, 0, 1),))
        self.assert_same(places_of(2, ROW, low), [Y, ((0, 1, 1), (999, 1, 1)), ((999, 1, 1),), ()])
        self.assertEqual(len(moves_of(2, ROW, low)), 3)

    def test_limit_of_tables(self):
        # The places are within the limit, y squared at the first of them is not.
        row = (((0, 2, 1),), X, X_AND_ONE)
        tellings = [((ONE,), (ONE, (), ONE)), (((),), (X, (), ONE))]
        shares = (((0, 0, 1), (600, 0, 1)), ((599, 0, 1),))
        self.assert_same(places_of(2, row, (tellings, shares))[1], ((600, 1, 1),))
        self.assert_too_many(999, moves_of, 2, row, (tellings, shares))

    def test_judged(self):
        names = ("prime", "row", "brought")
        wrong = list(STRANGE) + [
            (), [], {}, list(COMING), COMING[:1], COMING + ((),), ([], ()), ([WITH_ONE], [ONE]), ([WITH_ONE], ()),
            ([WITH_X], (ONE,)), ([WITH_ONE], (X,)), ([WITH_ONE], (((0, 0, True),),)), ([list(WITH_ONE)], (ONE,)),
            ([((((0, 0, True),),), WITH_ONE[1])], (ONE,)), ({0: WITH_ONE}, (ONE,)), ([WITH_ONE], nested("tuple", 79)),
            (nested("list", 79), (ONE,)), ([nested("tuple", 78)], (ONE,)), ([WITH_ONE, WITH_X], (ONE, Y)),
        ]
        for function in (places_of, moves_of):
            bads = [(BadPrime, NO_PRIMES), (BadRow, no_rows(2)), (BadComing, wrong)]
            self.assert_judged(function, names, (2, ROW, COMING), bads)
            for prime in (3, 5, 7):
                good = (prime, (Y, ONE), ([((), (ONE, (), ONE))], (ONE,)))
                bads = [(BadPrime, NO_PRIMES), (BadRow, no_rows(prime)), (BadComing, wrong)]
                self.assert_judged(function, names, good, bads)
            for row in not_plain_rows(2):
                for brought in (COMING, None, [], nested("list", 80)):
                    self.assert_refused(NotPlain, function, 2, row, brought)
                    self.assert_refused(BadRow, function, 2, list(row), brought)
                    self.assert_refused(BadPrime, function, 4, row, brought)
            self.assert_refused(BadComing, function, 2, (Y, X, ONE), COMING)
            self.assert_same(function(2, ROW, (tuple(COMING[0]), COMING[1])), function(2, ROW, COMING))


class FilledCase(JudgingCase):

    def check(self, prime, row):
        """Whether the row comes to 1; just then both are told, and they fit."""
        table, other = filled(prime, row), opened(prime, row)
        self.assertEqual(table is None, ones(prime, row) is None, (prime, row))
        self.assertEqual(other is None, table is None, (prime, row))
        if table is None:
            self.assertIsNotNone(common_spot(prime, row))
            return False
        self.check_table(prime, row, table)
        self.assert_same(table[0], row)
        self.assert_same(is_filled(prime, row, table), True)
        self.check_table(prime, row, other)
        self.assertTrue(is_led_to_one(prime, row, other), (prime, row))
        self.assert_same(is_opened(prime, row, other), True)
        self.assert_same(is_opened(prime, row, inverse(prime, table)), True)
        self.assert_same(is_filled(prime, row, inverse(prime, other)), True)
        return True

    def check_table(self, prime, row, table):
        self.assertIs(table.__class__, tuple)
        self.assertEqual([held.__class__ for held in table], [tuple] * len(row))
        self.assertEqual([len(held) for held in table], [len(row)] * len(row))
        self.assert_same(determinant_slowly(prime, table), ONE)


class FilledTest(FilledCase):

    def test_by_hand(self):
        table = (ROW, (ONE, (), ()), ((), ONE, ONE))
        self.assert_same(is_filled(2, ROW, table), True)
        self.assert_same(is_opened(2, ROW, inverse(2, table)), True)
        self.assertTrue(self.check(2, ROW))

    def test_rows_that_come_to_one(self):
        for prime in PRIMES:
            source = random.Random(prime)
            plain = [0, 0]
            for size, many in ((2, 25), (3, 80), (4, 50)):
                for row in low_rows_to_one(source, prime, size, many):
                    plain[is_plain_slowly(row[0])] += 1
                    self.assertTrue(self.check(prime, row))
                    mixed = list(row)
                    source.shuffle(mixed)
                    self.assertTrue(self.check(prime, tuple(mixed)))
            self.assertGreater(min(plain), 20)

    def test_any_rows(self):
        for prime in PRIMES:
            source = random.Random(prime + 1)
            told = [0, 0]
            for size, many in ((2, 60), (3, 80), (4, 60)):
                for _ in range(many):
                    told[self.check(prime, drawn_low_row(source, prime, size, source.choice((1, 2, 3, 6))))] += 1
            self.assertGreater(min(told), 30)

    def test_all_sparse_rows(self):
        # All rows of three polys of no more than two terms with the coefficient 1, in ascending sequence.
        lots = [()] + [tuple(sorted((i, j, 1) for i, j in lot)) for many in (1, 2)
                       for lot in itertools.combinations(LOW_POWERS, many)]
        for row in itertools.combinations(lots, 3):
            told = ones(2, row) is not None
            table = filled(2, row)
            self.assertEqual(table is not None, told)
            if told:
                self.assert_same(is_filled(2, row, table), True)

    def test_three_that_no_pair_of_leads_lowers(self):
        # y ** 2, x * y and a power of x lead the entries; modulo the last two y is a sum of powers of x.
        for prime in PRIMES:
            minus = ((0, 0, prime - 1),)
            seconds = [((0, 0, 1), (1, 1, 1)), ((0, 0, 1), (1, 1, 1), (2, 0, 1)), ((0, 1, 1), (1, 1, 1)), ((1, 1, 1),),
                       ((0, 1, 1), (0, 0, 1), (1, 1, 1)), ((1, 0, 1), (1, 1, 1))]
            firsts = [((0, 2, 1),), ((0, 1, 1), (0, 2, 1)), ((0, 0, 1), (0, 2, 1)), ((0, 2, 1), (1, 0, 1)),
                      ((0, 2, 1), (1, 1, 1), (2, 0, 1)), ((0, 0, 1), (0, 1, 1), (0, 2, 1), (1, 0, 1))]
            thirds = [((2, 0, 1),), ((0, 0, 1), (2, 0, 1)), ((1, 0, 1), (2, 0, 1)), minus + ((2, 0, 1),),
                      ((0, 0, 1), (1, 0, 1), (2, 0, 1))]
            told = [0, 0]
            for row in itertools.product(firsts, seconds, thirds):
                row = tuple(tuple(sorted(poly)) for poly in row)
                told[self.check(prime, row)] += 1
                told[self.check(prime, (row[2], row[0], row[1]))] += 1
            self.assertGreater(min(told), 20)

    def test_numbers_and_nothing(self):
        for prime in PRIMES:
            number = ((0, 0, prime - 1),)
            square = ((0, 2, 1), (1, 1, 1), (2, 0, 1))
            for size in (2, 3, 4):
                self.assertFalse(self.check(prime, ((),) * size))
                self.assertTrue(self.check(prime, (number,) * size))
                for at in range(size):
                    for rest in ((), X, Y, square):
                        row = (rest,) * at + (number,) + (rest,) * (size - at - 1)
                        self.assertTrue(self.check(prime, row))
                        self.assertFalse(self.check(prime, row[:at] + (square,) + row[at + 1:]))

    def test_nothing_among_the_entries(self):
        for prime in PRIMES:
            source = random.Random(prime + 2)
            for size in (2, 3):
                for row in low_rows_to_one(source, prime, size, 12):
                    for at in range(size + 1):
                        self.assertTrue(self.check(prime, row[:at] + ((),) + row[at:]))

    def test_common_zero_and_common_factor(self):
        for prime in PRIMES:
            field = ((0, 0, 1), (1, 0, 1), (2, 0, 1))
            for row in [(X, Y), (X, Y, ()), (X, Y, ((1, 1, 1),)), (X, ((1, 1, 1),), ((2, 0, 1),)),
                        (X_AND_ONE, product(prime, X_AND_ONE, Y)), (X, Y, ((0, 2, 1),), ((2, 0, 1),)),
                        (((0, 1, 1), (1, 0, 1)), ((0, 2, 1), (1, 1, 1)), ((1, 1, 1), (2, 0, 1))),
                        (field, ((0, 2, 1), (1, 0, 1)), product(prime, ((0, 0, prime - 1),), field))]:
                self.assertFalse(self.check(prime, row))

    def test_results_stay_low(self):
        for prime in PRIMES:
            source = random.Random(prime + 3)
            for size in (2, 3, 4):
                for row in low_rows_to_one(source, prime, size, 20):
                    for table in (filled(prime, row), opened(prime, row)):
                        powers = [max(i, j) for held in table for poly in held for i, j, _ in poly]
                        self.assertLess(max(powers), 40)

    def test_equal_arguments_equal_results(self):
        for prime in PRIMES:
            source = random.Random(prime + 4)
            for row in low_rows_to_one(source, prime, 3, 5):
                self.assert_same(filled(prime, row), filled(prime, tuple(list(row))))
                self.assert_same(opened(prime, row), opened(prime, tuple(list(row))))

    def test_terms_too_high(self):
        for function in (filled, opened):
            for prime in PRIMES:
                for i, j in ((3, 0), (2, 1), (1, 2), (0, 3), (2, 2), (999, 999), (0, 999)):
                    high = ((0, 0, 1), (i, j, 1))
                    for row in [(high, ONE), (ONE, high), (X, (), high), (high, high, high, high), (ONE, X, high, Y)]:
                        self.assert_too_many(2, function, prime, row)
                        self.assert_refused(BadRow, function, prime, row + (X, X, X))
                        self.assert_refused(BadRow, function, prime, row[:-1] + (None,))
                        self.assert_refused(BadPrime, function, 1, row)

    def test_judged(self):
        for prime in PRIMES:
            for function in (filled, opened):
                for row in [(X, ONE), ROW, (X, Y, (), ONE)]:
                    bads = [(BadPrime, NO_PRIMES), (BadRow, no_rows(prime))]
                    self.assert_judged(function, ("prime", "row"), (prime, row), bads)


class IsFilledTest(FilledCase):

    def test_values_of_every_kind(self):
        for prime in PRIMES:
            row = (X, ((0, 0, 1), (1, 1, 1)))
            table = (row, (((0, 0, prime - 1),), scaled(prime, -1, Y)))
            self.assert_same(is_filled(prime, row, table), True)
            self.assert_same(is_opened(prime, row, inverse(prime, table)), True)
            other = inverse(prime, table)
            true = ((0, 0, True),)
            for function, good in ((is_filled, table), (is_opened, other)):
                wrong = no_tables(prime, (2,)) + [
                    list(good), (list(good[0]), good[1]), good[:1], good + good[:1], (good[1], good[0]), (row, row),
                    ((ONE, ()), ((), ONE)), ((true, ()), ((), ONE)), (good[0], good[0]), None, row, nested("tuple", 80),
                    (good[0], (good[1][0], [])), dict(enumerate(good)),
                ]
                for value in wrong:
                    self.assert_same(function(prime, row, value), False)

    def test_true_among_terms(self):
        row = (ONE, ())
        true = ((0, 0, True),)
        false = ((False, 0, 1),)
        for function in (is_filled, is_opened):
            self.assert_same(function(2, row, (row, ((), ONE))), True)
            for bad in (true, false, ((0, False, 1),)):
                self.assert_same(function(2, row, ((bad, ()), ((), ONE))), False)
                self.assert_same(function(2, row, (row, ((), bad))), False)

    def test_other_determinants(self):
        for prime in (3, 5, 7):
            minus = ((0, 0, prime - 1),)
            row = (ONE, X)
            self.assert_same(is_filled(prime, row, (row, ((), ONE))), True)
            self.assert_same(is_filled(prime, row, (row, ((), minus))), False)
            self.assert_same(is_filled(prime, row, (row, (ONE, X))), False)
            self.assert_same(is_filled(prime, row, (row, ((), X))), False)
            self.assert_same(is_opened(prime, row, ((ONE, scaled(prime, -1, X)), ((), ONE))), True)
            self.assert_same(is_opened(prime, row, ((ONE, X), ((), minus))), False)
            self.assert_same(is_opened(prime, row, ((ONE, ()), ((), ONE))), False)
            # Led to 1 and nothing, but with another determinant; led to another number.
            self.assert_same(is_opened(prime, (ONE, ()), ((ONE, ()), ((), minus))), False)
            self.assert_same(is_opened(prime, (ONE, ()), ((minus, ()), ((), minus))), False)
            self.assert_same(is_opened(prime, (minus, ()), ((minus, ()), ((), minus))), True)
            self.assert_same(is_filled(prime, (minus, ()), ((minus, ()), ((), minus))), True)

    def test_rows_of_higher_powers(self):
        for prime in PRIMES:
            high = ((999, 999, 1),)
            row = (ONE, high)
            self.assert_same(is_filled(prime, row, (row, ((), ONE))), True)
            self.assert_same(is_filled(prime, row, (row, (high, ONE))), False)
            self.assert_same(is_opened(prime, row, ((ONE, scaled(prime, -1, high)), ((), ONE))), True)
            self.assert_same(is_opened(prime, row, ((ONE, high), (high, ONE))), False)
            source = random.Random(prime)
            for size in (2, 3, 4):
                table = led_table(source, prime, size, 6, 3)
                self.assert_same(is_filled(prime, table[0], table), True)
                self.assert_same(is_opened(prime, table[0], inverse(prime, table)), True)
                self.assert_same(is_filled(prime, table[1], table), table[0] == table[1])

    def test_powers_on_the_way(self):
        # The determinant's powers go up to 1998 and cancel out.
        high = ((999, 0, 1),)
        table = ((high, high, ONE), (ONE, ONE, ()), ((), ONE, ()))
        self.assert_same(determinant_slowly(2, table), ONE)
        self.assert_same(is_filled(2, table[0], table), True)
        table = ((ONE, high), ((), ONE))
        self.assert_same(is_opened(2, (high, ONE), (((), ONE), (ONE, high))), True)

    def test_judged(self):
        names = ("prime", "row", "thing")
        for prime in PRIMES:
            for function in (is_filled, is_opened):
                bads = [(BadPrime, NO_PRIMES), (BadRow, no_rows(prime)), None]
                self.assert_judged(function, names, (prime, (ONE, ()), ((ONE, ()), ((), ONE))), bads)
                self.assert_judged(function, names, (prime, ROW, None), [(BadPrime, NO_PRIMES), None, None])


class AllTellAlikeTest(JudgingCase):
    """For rows without terms of i + j above 2 all that tells whether they come to 1 tells the same."""

    def test_drawn(self):
        from rowsfilled.minors import dependent, multiples
        from rowsfilled.solving import basis
        from rowsfilled.zeros import rest_size
        for prime in PRIMES:
            source = random.Random(prime + 5)
            told = [0, 0]
            for size in (2, 3, 4):
                for _ in range(40):
                    row = drawn_low_row(source, prime, size, source.choice((1, 2, 4, 6)))
                    answer = ones(prime, row) is not None
                    told[answer] += 1
                    self.assertEqual(common_spot(prime, row) is None, answer)
                    self.assertEqual(rest_size(prime, row) == 0, answer)
                    self.assertEqual(multiples(prime, (row,)) is not None, answer)
                    self.assertEqual(dependent(prime, (row,)) is None, answer)
                    self.assertEqual(filled(prime, row) is not None, answer)
                    self.assertEqual(opened(prime, row) is not None, answer)
                    self.assertEqual(basis(prime, row) is not None, answer)
                    if is_plain_slowly(row[0]):
                        self.assertEqual(coming(prime, row) is not None, answer)
            self.assertGreater(min(told), 20)


if __name__ == "__main__":
    unittest.main()
