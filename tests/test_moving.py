"""Points 40, 41 and 42, and the words at the head of Part 4: rowsfilled/moving.py."""

import itertools
import random
import unittest

from rowsfilled.errors import (
    Apart, BadMixing, BadNumber, BadPlace, BadPoly, BadPrime, BadRow, BadTable, BadTelling, NotWhole,
)
from rowsfilled.moving import (
    determinant, inverse, is_telling, mixed_entry, moved_row, moved_two, placed, placed_row, row_by, table_product,
    unit,
)
from rowsfilled.resultants import resultant
from tests.judging import JudgingCase
from tests.reference import (
    determinant_slowly, high_slowly, product, product_of_tables, put_slowly, scaled, summed, summed_products,
    unit_slowly,
)
from tests.samples import (
    NO_PRIMES, ONE, PRIMES, STRANGE, WIDE, X, Y, drawn_grid, drawn_poly, drawn_row, led_table, nested, no_polys,
    no_rows, no_tables, no_x_polys,
)


def less(prime, one, other):
    return summed(prime, one, scaled(prime, -1, other))


class UnitTest(JudgingCase):

    def test_all(self):
        for prime in PRIMES:
            for many in (2, 3, 4):
                self.assert_same(unit(prime, many), unit_slowly(many))
        self.assert_same(unit(2, 2), ((ONE, ()), ((), ONE)))

    def test_judged(self):
        for prime in PRIMES:
            wrong = list(STRANGE) + [0, 1, 5, 6, -2, "2", (2,), [2], 2.0, WIDE]
            self.assert_judged(unit, ("prime", "many"), (prime, 2), [(BadPrime, NO_PRIMES), (BadNumber, wrong)])


class ProductTest(JudgingCase):

    def test_against_the_sums(self):
        for prime in PRIMES:
            source = random.Random(prime)
            for size in (2, 3, 4):
                for _ in range(12):
                    one, other = drawn_grid(source, prime, size, size), drawn_grid(source, prime, size, size)
                    found = table_product(prime, one, other)
                    self.assert_same(found, product_of_tables(prime, one, other))
                    self.assert_same(table_product(prime, one, unit(prime, size)), one)
                    self.assert_same(table_product(prime, unit(prime, size), one), one)
                    row = drawn_row(source, prime, size)
                    by_one = row_by(prime, row, one)
                    self.assert_same(by_one, product_of_tables(prime, (row,), one)[0])
                    self.assert_same(row_by(prime, by_one, other), row_by(prime, row, found))

    def test_unlike_sizes(self):
        tables = {size: unit(3, size) for size in (2, 3, 4)}
        rows = {size: (X,) * size for size in (2, 3, 4)}
        for one, other in itertools.permutations((2, 3, 4), 2):
            self.assert_refused(BadTable, table_product, 3, tables[one], tables[other])
            self.assert_refused(BadTable, row_by, 3, rows[one], tables[other])

    def test_limit(self):
        high, low = ((500, 0, 1),), ((499, 0, 1),)
        self.assert_too_many(999, table_product, 2, ((high, ()), ((), ())), ((high, ()), ((), ())))
        self.assert_same(table_product(2, ((high, ()), ((), ())), ((low, ()), ((), ())))[0][0], ((999, 0, 1),))
        self.assert_too_many(999, row_by, 2, (((0, 999, 1),), ONE), ((Y, ()), ((), ())))
        # The two shares of the sum have the power 1000, the sum is nothing.
        self.assert_same(table_product(2, ((high, high), ((), ())), ((high, ()), (high, ()))), (((), ()), ((), ())))
        self.assert_same(row_by(2, (high, high), ((high, X), (high, ()))), ((), ((501, 0, 1),)))

    def test_judged(self):
        for prime in PRIMES:
            table = ((X, ONE), ((), Y))
            wrong = no_tables(prime)
            unlike = no_tables(prime, (2,))
            bads = [(BadPrime, NO_PRIMES), (BadTable, wrong), (BadTable, unlike)]
            self.assert_judged(table_product, ("prime", "table", "other"), (prime, table, table), bads)
            bads = [(BadPrime, NO_PRIMES), (BadRow, no_rows(prime)), (BadTable, unlike)]
            self.assert_judged(row_by, ("prime", "row", "table"), (prime, (X, Y), table), bads)
            big = unit(prime, 4)
            bads = [(BadPrime, NO_PRIMES), (BadTable, wrong), (BadTable, no_tables(prime, (4,)))]
            self.assert_judged(table_product, ("prime", "table", "other"), (prime, big, big), bads)


class DeterminantTest(JudgingCase):

    def leibniz(self, prime, table):
        shares = []
        for order in itertools.permutations(range(len(table))):
            turns = sum(one > other for k, other in enumerate(order) for one in order[:k])
            sign = ((0, 0, 1 if turns % 2 == 0 else prime - 1),)
            shares.append(product(prime, sign, *[table[k][at] for k, at in enumerate(order)]))
        return summed(prime, *shares)

    def test_by_hand(self):
        table = ((X, ONE), (ONE, ()))
        self.assert_same(determinant(2, table), ONE)
        self.assert_same(inverse(2, table), (((), ONE), (ONE, X)))
        self.assert_same(determinant(3, table), ((0, 0, 2),))
        self.assert_same(inverse(3, table), (((), ONE), (ONE, ((1, 0, 2),))))

    def test_against_all_orders(self):
        for prime in PRIMES:
            source = random.Random(prime + 1)
            for size in (2, 3, 4):
                for _ in range(15):
                    table = drawn_grid(source, prime, size, size, 2, 3)
                    expected = self.leibniz(prime, table)
                    self.assert_same(expected, determinant_slowly(prime, table))
                    self.assert_same(determinant(prime, table), expected)
                    other = drawn_grid(source, prime, size, size, 1, 2)
                    both = product(prime, expected, determinant(prime, other))
                    self.assert_same(determinant(prime, table_product(prime, table, other)), both)

    def test_inverse_either_way(self):
        for prime in PRIMES:
            source = random.Random(prime + 2)
            for size in (2, 3, 4):
                for _ in range(10):
                    table = list(led_table(source, prime, size))
                    number = ((0, 0, source.randint(1, prime - 1)),)
                    at = source.randrange(size)
                    table[at] = tuple(product(prime, number, poly) for poly in table[at])
                    table = tuple(table)
                    self.assert_same(determinant(prime, table), number)
                    about = inverse(prime, table)
                    self.assert_same(product_of_tables(prime, table, about), unit_slowly(size))
                    self.assert_same(product_of_tables(prime, about, table), unit_slowly(size))
                    self.assert_same(inverse(prime, about), table)

    def test_not_whole(self):
        for prime in PRIMES:
            for table in [((X, ()), ((), ONE)), ((X, X), (Y, Y)), (((), ()), ((), ())), ((ONE, X), (Y, ONE)),
                          ((X, ONE), (ONE, ONE)), ((ONE, ONE), (ONE, ONE)), ((Y, ()), ((), ONE))]:
                self.assert_refused(NotWhole, inverse, prime, table)
                wider = tuple(row + ((),) for row in table) + (((), (), ONE),)
                self.assert_refused(NotWhole, inverse, prime, wider)
            self.assert_refused(NotWhole, inverse, prime, (((), X, X, ()),) * 4)

    def test_limit(self):
        high, low = ((500, 0, 1),), ((499, 0, 1),)
        self.assert_same(determinant(3, ((high, ONE), (ONE, low))), ((0, 0, 2), (999, 0, 1)))
        self.assert_too_many(999, determinant, 3, ((high, ONE), (ONE, high)))
        self.assert_same(determinant(3, ((high, high), (high, high))), ())
        self.assert_same(determinant(3, ((high, high, ONE), (high, high, ()), ((), ONE, ())))[-1], (500, 0, 1))
        self.assert_refused(NotWhole, inverse, 3, ((high, ONE), (ONE, high)))
        # The inverse of a table with x ** 500 above the diagonal, in two steps, has x ** 1000.
        steps = ((ONE, high, ()), ((), ONE, high), ((), (), ONE))
        self.assert_same(determinant(3, steps), ONE)
        self.assert_too_many(999, inverse, 3, steps)
        steps = ((ONE, high, ()), ((), ONE, low), ((), (), ONE))
        self.assert_same(inverse(3, steps)[0], (ONE, ((500, 0, 2),), ((999, 0, 1),)))

    def test_judged(self):
        for prime in PRIMES:
            bads = [(BadPrime, NO_PRIMES), (BadTable, no_tables(prime))]
            self.assert_judged(determinant, ("prime", "table"), (prime, ((X, Y), (ONE, ()))), bads)
            self.assert_judged(inverse, ("prime", "table"), (prime, ((X, ONE), (ONE, ()))), bads)


class PlacedTest(JudgingCase):

    def test_by_hand(self):
        self.assert_same(placed(2, ((0, 2, 1), (1, 1, 1)), ((1, 1, 1),)), ((2, 1, 1), (2, 2, 1)))
        self.assert_same(placed(2, ((0, 2, 1), (3, 0, 1)), ()), ((3, 0, 1),))
        self.assert_same(placed_row(2, (Y, X, ONE), ((0, 0, 1),)), (ONE, X, ONE))

    def test_against_the_slow_way(self):
        for prime in PRIMES:
            source = random.Random(prime + 3)
            for place in [(), ONE, Y, X, ((1, 1, 1),), ((0, 0, 1), (0, 2, prime - 1), (1, 1, 1))]:
                for _ in range(10):
                    row = drawn_row(source, prime, source.choice((2, 3, 4)))
                    expected = tuple(put_slowly(prime, poly, X, place) for poly in row)
                    self.assert_same(placed_row(prime, row, place), expected)
                    self.assert_same(placed(prime, row[0], place), expected[0])

    def test_limit(self):
        self.assert_same(placed(5, ((0, 9, 1),), ((111, 0, 2),))[0][0], 999)
        self.assert_too_many(999, placed, 5, ((0, 10, 1),), ((100, 0, 1),))
        self.assert_too_many(999, placed_row, 5, (X, ((0, 10, 1),)), ((0, 100, 1),))
        self.assert_too_many(999, placed, 5, ((999, 1, 1),), X)
        self.assert_same(placed(5, ((999, 999, 1),), ()), ())
        self.assert_same(placed(5, ((999, 999, 1),), ((0, 0, 4),)), ((999, 0, 4),))

    def test_judged(self):
        for prime in PRIMES:
            bads = [(BadPrime, NO_PRIMES), (BadPoly, no_polys(prime)), (BadPlace, no_polys(prime))]
            self.assert_judged(placed, ("prime", "poly", "place"), (prime, ((1, 2, 1),), Y), bads)
            bads = [(BadPrime, NO_PRIMES), (BadRow, no_rows(prime)), (BadPlace, no_polys(prime))]
            self.assert_judged(placed_row, ("prime", "row", "place"), (prime, (((1, 2, 1),), X, Y), Y), bads)


class TellingTest(JudgingCase):

    def test_resultants(self):
        for prime in PRIMES:
            source = random.Random(prime + 4)
            for _ in range(40):
                one, other = drawn_poly(source, prime, 3, 4), drawn_poly(source, prime, 3, 4)
                if one and other and high_slowly(one, "y") + high_slowly(other, "y") > 0:
                    r, u, v = resultant(prime, one, other)
                    self.assert_same(is_telling(prime, one, other, (r, u, v)), r != ())
                    self.assert_same(is_telling(prime, other, one, (r, v, u)), r != ())
                    self.assert_same(is_telling(prime, one, other, (r, u, summed(prime, v, ONE))), False)

    def test_values_of_every_kind(self):
        good = (X, (), ONE)
        self.assert_same(is_telling(2, Y, X, good), True)
        self.assert_same(is_telling(3, Y, X, (((1, 0, 2),), (), ((0, 0, 2),))), True)
        self.assert_same(is_telling(3, Y, X, (((1, 0, 2),), (), ONE)), False)
        wrong = list(STRANGE) + no_rows(2, (3,))[::3] + [
            (), [], {}, list(good), good[:2], good + ((),), {0: X, 1: (), 2: ONE}, (Y, ONE, ()), ((), (), ()),
            (((1, 1, 1),), (), Y), (X, ONE, ()), (X, ONE, ONE), ([(1, 0, 1)], (), ONE), (X, [], ONE),
            (X, (), [(0, 0, 1)]),
            (((1, 0, True),), (), ONE), (X, (), ((0, 0, True),)), (((True, 0, 1),), (), ONE), (X, (), ((0, False, 1),)),
            (((1, False, 1),), (), ONE), (X, None, ONE), (X, (), 1), (X, False, ONE), (good,), (X, (), (ONE,)),
        ]
        wrong += [(value, (), ONE) for value in no_x_polys(2)]
        wrong += [(X, value, ONE) for value in no_polys(2)]
        wrong += [(X, (), value) for value in no_polys(2)]
        for value in wrong:
            self.assert_same(is_telling(2, Y, X, value), False)
        self.assert_same(is_telling(2, Y, Y, ((), ONE, ONE)), False)

    def test_high_powers_on_the_way(self):
        # x ** 999 times x, taken away again.
        one, other = ((0, 0, 1), (1, 0, 1)), X
        telling = (ONE, ((0, 0, 1), (999, 999, 2)), ((0, 0, 2), (998, 999, 1), (999, 999, 1)))
        self.assert_same(is_telling(3, one, other, telling), True)
        self.assert_same(is_telling(3, one, other, (ONE, telling[1], telling[2][:-1])), False)

    def test_judged(self):
        names = ("prime", "one", "other", "thing")
        for prime in PRIMES:
            bads = [(BadPrime, NO_PRIMES), (BadPoly, no_polys(prime)), (BadPoly, no_polys(prime)), None]
            self.assert_judged(is_telling, names, (prime, Y, X, (X, (), ONE)), bads)


def ways(source, prime, one, other):
    """A telling of the two and places that differ by multiples of its r; None if r is () or too high."""
    if not one or not other or high_slowly(one, "y") + high_slowly(other, "y") == 0:
        return None
    telling = resultant(prime, one, other)
    if telling[0] == ():
        return None
    places = [drawn_poly(source, prime, 1, 2)]
    for _ in range(2):
        more = product(prime, telling[0], drawn_poly(source, prime, 1, 2))
        places.append(summed(prime, places[0], more))
    return telling, places


class MovedTwoTest(JudgingCase):

    def test_by_hand(self):
        self.assert_same(moved_two(2, Y, X, (X, (), ONE), ((1, 1, 1),), ()), ((ONE, ()), (Y, ONE)))
        self.assert_refused(Apart, moved_two, 2, Y, X, (X, (), ONE), Y, ())
        self.assert_same(row_by(2, (((1, 1, 1),), X), ((ONE, ()), (Y, ONE))), ((), X))

    def check(self, prime, one, other, telling, place, goal):
        """The four entries as the point writes them, each times r."""
        table = moved_two(prime, one, other, telling, place, goal)
        r, u, v = telling
        a, b, c, d = [put_slowly(prime, poly, X, place) for poly in (one, other, scaled(prime, -1, v), u)]
        e, f, g, h = [put_slowly(prime, poly, X, goal) for poly in (one, other, scaled(prime, -1, v), u)]
        pairs = [[(d, e, b, g), (d, f, b, h)], [(a, g, c, e), (a, h, c, f)]]
        for row, row_pairs in zip(table, pairs):
            for entry, (first, second, third, fourth) in zip(row, row_pairs):
                expected = less(prime, product(prime, first, second), product(prime, third, fourth))
                self.assert_same(product(prime, entry, r), expected)
        self.assert_same(determinant(prime, table), ONE)
        self.assert_same(row_by(prime, (a, b), table), (e, f))
        return table

    def test_drawn(self):
        for prime in PRIMES:
            source = random.Random(prime + 5)
            done = 0
            while done < 25:
                one, other = drawn_poly(source, prime, 2, 3), drawn_poly(source, prime, 2, 3)
                found = ways(source, prime, one, other)
                if found is None:
                    continue
                telling, (place, goal, third) = found
                first = self.check(prime, one, other, telling, place, goal)
                second = self.check(prime, one, other, telling, goal, third)
                whole = self.check(prime, one, other, telling, place, third)
                self.assert_same(table_product(prime, first, second), whole)
                self.assert_same(self.check(prime, one, other, telling, place, place), unit(prime, 2))
                away = summed(prime, goal, ((0, 2, 1), (5, 0, 1))) if high_slowly(telling[0], "x") > 0 else None
                if away is not None:
                    self.assert_refused(Apart, moved_two, prime, one, other, telling, place, away)
                done += 1

    def test_other_tellings(self):
        # A telling need not be the resultant: both told in other ways.
        for prime in PRIMES:
            one, other = ((0, 1, 1), (1, 0, 1)), ((0, 2, 1),)
            r, u, v = resultant(prime, one, other)
            more = ((1, 1, 1),)
            telling = (r, summed(prime, u, product(prime, more, other)), less(prime, v, product(prime, more, one)))
            self.check(prime, one, other, telling, (), product(prime, r, Y))
            tripled = tuple(product(prime, poly, ((0, 0, 1), (1, 0, 1))) for poly in telling)
            self.check(prime, one, other, tripled, X, summed(prime, X, product(prime, tripled[0], Y)))
            self.assert_refused(Apart, moved_two, prime, one, other, tripled, X, summed(prime, X, r))

    def test_number_as_r(self):
        # All places may be reached.
        for prime in PRIMES:
            number = ((0, 0, prime - 1),)
            self.check(prime, number, Y, (number, ONE, ()), Y, ((3, 2, 1),))
            self.check(prime, ((0, 0, 1), (0, 1, 1)), Y, (ONE, ONE, number), ((1, 1, 1),), ((0, 0, 1), (2, 0, 1)))

    def test_limit(self):
        one, other, telling = Y, X, (X, (), ONE)
        self.assert_same(moved_two(2, one, other, telling, (), ((1, 999, 1),)), ((ONE, ()), (((0, 999, 1),), ONE)))
        # From the place () the square of the goal, divided by x, comes into the table.
        square = ((0, 2, 1),)
        self.assert_too_many(999, moved_two, 2, square, X, telling, (), ((501, 0, 1),))
        self.assert_same(moved_two(2, square, X, telling, (), ((500, 0, 1),)), ((ONE, ()), (((999, 0, 1),), ONE)))
        self.assert_same(moved_two(2, square, X, telling, ((999, 0, 1),), ((999, 0, 1),)), unit(2, 2))
        self.assert_refused(Apart, moved_two, 2, square, X, telling, (), ((0, 1, 1), (501, 0, 1)))

    def test_sequence_of_errors(self):
        good = (3, Y, X, (X, (), ONE), (), X)
        moved_two(*good)
        bad = {1: (BadPoly, None), 2: (BadPoly, 1), 3: (BadTelling, (X, ONE, ())), 4: (BadPlace, []), 5: (BadPlace, 0)}
        for first, second in itertools.combinations(sorted(bad), 2):
            arguments = list(good)
            arguments[first], arguments[second] = bad[first][1], bad[second][1]
            self.assert_refused(bad[first][0], moved_two, *arguments)
        self.assert_refused(BadPlace, moved_two, 3, Y, X, (X, (), ONE), Y, None)
        self.assert_refused(BadTelling, moved_two, 3, Y, Y, (X, (), ONE), Y, None)
        self.assert_refused(Apart, moved_two, 3, Y, X, (X, (), ONE), Y, ())

    def test_judged(self):
        names = ("prime", "one", "other", "telling", "place", "goal")
        for prime in PRIMES:
            polys = no_polys(prime)
            tellings = list(STRANGE) + [[X, (), ONE], (X, ONE, ()), ((), (), ()), (Y, ONE, ()), (X, ()), {}]
            tellings += [(value, (), ONE) for value in no_x_polys(prime)[::4]]
            tellings += [(X, (), value) for value in polys[::4]]
            bads = [(BadPrime, NO_PRIMES), (BadPoly, polys), (BadPoly, polys), (BadTelling, tellings),
                    (BadPlace, polys), (BadPlace, polys)]
            self.assert_judged(moved_two, names, (prime, Y, X, (X, (), ONE), ((1, 1, 1),), ()), bads)


class MovedRowTest(JudgingCase):

    def mixed_slowly(self, prime, row, mixing):
        return summed(prime, row[1], summed_products(prime, mixing, row[2:]))

    def test_mixed_entry(self):
        self.assert_same(mixed_entry(2, (Y, X, ((0, 0, 1), (1, 0, 1))), (ONE,)), ONE)
        self.assert_same(mixed_entry(2, (Y, X, ((0, 0, 1), (1, 0, 1))), ((),)), X)
        self.assert_same(mixed_entry(2, (Y, X), ()), X)
        for prime in PRIMES:
            source = random.Random(prime + 6)
            for size in (2, 3, 4):
                for _ in range(15):
                    row, mixing = drawn_row(source, prime, size), drawn_row(source, prime, size - 2)
                    self.assert_same(mixed_entry(prime, row, mixing), self.mixed_slowly(prime, row, mixing))
        high = ((500, 0, 1),)
        self.assert_too_many(999, mixed_entry, 2, (X, Y, high), (high,))
        self.assert_same(mixed_entry(2, (X, Y, high, high), (high, high)), Y)

    def table_with(self, size, entries):
        table = [list(row) for row in unit_slowly(size)]
        for (i, j), poly in entries.items():
            table[i][j] = poly
        return tuple(tuple(row) for row in table)

    def divided(self, prime, poly, r):
        """The poly divided by the x-poly r, which divides it."""
        rest, found = poly, ()
        while rest:
            i, j, c = max(rest)
            number = c * pow(r[-1][2], -1, prime) % prime
            share = ((i - r[-1][0], j, number),)
            found = summed(prime, found, share)
            rest = less(prime, rest, product(prime, share, r))
        return found

    def check(self, prime, row, mixing, telling, place, goal):
        """The product of the four tables as the point writes them."""
        size = len(row)
        r, u, v = telling
        here = [put_slowly(prime, poly, X, place) for poly in row]
        there = [put_slowly(prime, poly, X, goal) for poly in row]
        first = self.table_with(size, {(k + 2, 1): put_slowly(prime, held, X, place) for k, held in enumerate(mixing)})
        two = moved_two(prime, row[0], self.mixed_slowly(prime, row, mixing), telling, place, goal)
        second = self.table_with(size, {(i, j): two[i][j] for i in (0, 1) for j in (0, 1)})
        entries = {}
        for at in range(2, size):
            h = self.divided(prime, less(prime, there[at], here[at]), r)
            entries[0, at] = product(prime, h, put_slowly(prime, u, X, goal))
            entries[1, at] = product(prime, h, put_slowly(prime, v, X, goal))
        third = self.table_with(size, entries)
        fourth = self.table_with(size, {
            (k + 2, 1): scaled(prime, -1, put_slowly(prime, held, X, goal)) for k, held in enumerate(mixing)})
        expected = first
        for table in (second, third, fourth):
            expected = product_of_tables(prime, expected, table)
        found = moved_row(prime, row, mixing, telling, place, goal)
        self.assert_same(found, expected)
        self.assert_same(determinant(prime, found), ONE)
        self.assert_same(row_by(prime, placed_row(prime, row, place), found), placed_row(prime, row, goal))
        return found

    def test_drawn(self):
        for prime in PRIMES:
            source = random.Random(prime + 7)
            for size in (2, 3, 4):
                done = 0
                while done < 8:
                    row, mixing = drawn_row(source, prime, size, 2, 2), drawn_row(source, prime, size - 2, 1, 2)
                    found = ways(source, prime, row[0], self.mixed_slowly(prime, row, mixing))
                    if found is None:
                        continue
                    telling, (place, goal, third) = found
                    one = self.check(prime, row, mixing, telling, place, goal)
                    other = self.check(prime, row, mixing, telling, goal, third)
                    whole = self.check(prime, row, mixing, telling, place, third)
                    self.assert_same(table_product(prime, one, other), whole)
                    self.assert_same(self.check(prime, row, mixing, telling, place, place), unit(prime, size))
                    done += 1

    def test_two_entries(self):
        self.assert_same(moved_row(2, (Y, X), (), (X, (), ONE), ((1, 1, 1),), ()), ((ONE, ()), (Y, ONE)))

    def test_sequence_of_errors(self):
        good = (3, (Y, X, Y), ((),), (X, (), ONE), (), X)
        moved_row(*good)
        bad = {1: (BadRow, (Y,)), 2: (BadMixing, ()), 3: (BadTelling, (X, Y, ())), 4: (BadPlace, []), 5: (BadPlace, 0)}
        for first, second in itertools.combinations(sorted(bad), 2):
            arguments = list(good)
            arguments[first], arguments[second] = bad[first][1], bad[second][1]
            self.assert_refused(bad[first][0], moved_row, *arguments)
        self.assert_refused(Apart, moved_row, 3, (Y, X, Y), ((),), (X, (), ONE), (), Y)
        # With another mixing it is no telling of what is mixed.
        self.assert_refused(BadTelling, moved_row, 3, (Y, X, Y), (ONE,), (X, (), ONE), (), X)
        self.assert_same(is_telling(3, Y, ((0, 1, 1), (1, 0, 1)), (X, ((0, 0, 2),), ONE)), True)
        moved_row(3, (Y, X, Y), (ONE,), (X, ((0, 0, 2),), ONE), (), X)

    def test_mixed_entry_above_the_limit_on_the_way(self):
        # What is mixed has the power 1000, the telling does not need it.
        high = ((500, 0, 1),)
        row, mixing = (ONE, X, high), (high,)
        self.assert_too_many(999, mixed_entry, 2, row, mixing)
        self.assert_same(moved_row(2, row, mixing, (ONE, ONE, ()), Y, Y), unit(2, 3))

    def test_limit(self):
        row = (Y, X, ((0, 2, 1),))
        self.assert_same(moved_row(2, row, ((),), (X, (), ONE), (), ((500, 0, 1),))[1][2], ((999, 0, 1),))
        self.assert_too_many(999, moved_row, 2, row, ((),), (X, (), ONE), (), ((501, 0, 1),))

    def test_judged(self):
        for prime in PRIMES:
            polys = no_polys(prime)
            mixings = list(STRANGE) + [(), [], [ONE], (ONE, ONE), {0: ONE}, ONE, 0, (nested("tuple", 79),)]
            mixings += [(value,) for value in polys]
            names = ("prime", "row", "mixing")
            bads = [(BadPrime, NO_PRIMES), (BadRow, no_rows(prime)), (BadMixing, mixings)]
            self.assert_judged(mixed_entry, names, (prime, (Y, X, Y), (X,)), bads)
            tellings = list(STRANGE) + [[X, (), ONE], (X, ONE, ()), ((), (), ()), (Y, ONE, ()), (X, ()), {}]
            bads += [(BadTelling, tellings), (BadPlace, polys), (BadPlace, polys)]
            names += ("telling", "place", "goal")
            self.assert_judged(moved_row, names, (prime, (Y, X, Y), ((),), (X, (), ONE), ((1, 1, 1),), ()), bads)
            for size, wrong in ((2, [[], (ONE,), ((),), None]), (4, [(), (ONE,), (ONE,) * 3, [ONE, ONE], (ONE, None)])):
                for value in wrong:
                    self.assert_refused(BadMixing, mixed_entry, prime, (Y,) * size, value)


if __name__ == "__main__":
    unittest.main()
