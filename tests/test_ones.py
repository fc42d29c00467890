"""Point 30, and the words at the head of Part 3: rowsfilled/ones.py."""

import itertools
import random
import unittest

from rowsfilled.commons import common_factor
from rowsfilled.errors import BadPrime, BadRow
from rowsfilled.fields import common_at
from rowsfilled.onevar import common, factors
from rowsfilled.ones import are_ones, ones
from rowsfilled.resultants import resultant
from rowsfilled.turns import turned
from tests.judging import JudgingCase
from tests.reference import at, degree, high_slowly, product, summed, summed_products
from tests.samples import (
    NO_PRIMES, NO_TERMS, ONE, PRIMES, STRANGE, WIDE, X, Y, drawn_poly, drawn_row, no_polys, no_rows, some_polys,
)

TURNS = [("swap",)] + [(word, m) for word in ("slide", "back") for m in (1, 2, 3)]


def is_small(row):
    return all(high_slowly(poly, letter) <= 3 for poly in row for letter in "xy")


def led_rows(source, prime, size, many):
    """Small rows that come to 1: one 1 and (), and multiples of entries added to other entries, again and again."""
    found = []
    while len(found) < many:
        row = [()] * size
        row[source.randrange(size)] = ONE
        for _ in range(source.randint(1, 7)):
            one, other = source.sample(range(size), 2)
            more = product(prime, drawn_poly(source, prime, 2, 2), row[one])
            changed = summed(prime, row[other], more)
            if is_small([changed]):
                row[other] = changed
        found.append(tuple(row))
    return found


class OnesCase(JudgingCase):

    def check_found(self, prime, row):
        """That the row comes to 1, and what is told for it."""
        found = ones(prime, row)
        self.assertIsNotNone(found, (prime, row))
        self.assertIs(found.__class__, tuple)
        self.assertEqual(len(found), len(row))
        self.assert_same(summed_products(prime, row, found), ONE)
        self.assert_same(are_ones(prime, row, found), True)
        self.assertLess(max([max(i, j) for poly in found for i, j, _ in poly]), 120)
        return found


class AreOnesTest(OnesCase):

    def test_by_hand(self):
        row = (((0, 0, 1), (1, 1, 1)), X)
        self.assert_same(are_ones(2, row, (ONE, Y)), True)
        self.assert_same(are_ones(2, row, (ONE, ())), False)
        self.assert_same(are_ones(2, (X, Y), (ONE, ONE)), False)
        self.assert_same(are_ones(2, row, (Y, ONE)), False)
        # 1 + y (1 + x y) and y + y (x) more: the second pair of multiples differs by the row turned about.
        self.assert_same(are_ones(2, row, (((0, 0, 1), (1, 0, 1)), ((0, 0, 1), (0, 1, 1), (1, 1, 1)))), True)

    def test_values_of_every_kind(self):
        row = (((0, 0, 1), (1, 1, 1)), X)
        wrong = list(STRANGE) + no_rows(2, (2,)) + [
            (), [], {}, [ONE, Y], (ONE,), (ONE, Y, ()), (ONE, Y, Y), {0: ONE, 1: Y}, ((ONE, Y),), (list(ONE), Y),
            (ONE, [[0, 1, 1]]), (ONE, ([0, 1, 1],)), (ONE, [(0, 1, 1)]), (((0, 0, True),), Y), (ONE, ((0, 1, True),)),
            (ONE, ((0, True, 1),)), (ONE, ((False, 1, 1),)), (((False, 0, 1),), Y), (((0, False, 1),), Y), (1, Y),
            (True, Y), (ONE, ((0, 1, 1), (0, 1, 1), (0, 1, 1))), (ONE, ((0, 1, 3),)), (((0, 0, 3),), Y),
            (((0, 0, -1),), Y), (ONE, ((0, 1, 1), (0, 0, 0))), (((0, 0, 1), (1000, 0, 1)), Y), ((), ()),
        ]
        for term in NO_TERMS:
            wrong += [((term,), Y), (ONE, (term,)), (ONE, ((0, 1, 1), term))]
        for value in wrong:
            self.assert_same(are_ones(2, row, value), False)

    def test_only_through_high_powers(self):
        # (1 less x y) times the sum of all (x y) ** k is 1 less (x y) ** 1000; x ** 999 y ** 999 x y takes this away.
        first = ((0, 0, 1), (1, 1, 2))
        sums = tuple((k, k, 1) for k in range(1000))
        self.assert_same(are_ones(3, (first, ((1, 1, 1),)), (sums, ((999, 999, 1),))), True)
        self.assert_same(are_ones(3, (first, ((1, 1, 1),)), (sums, ((999, 999, 2),))), False)
        self.assert_same(are_ones(3, (first, ((1, 1, 1),)), (sums, ((998, 999, 1),))), False)
        high = ((0, 0, 1), (999, 999, 1))
        self.assert_same(are_ones(5, (high, high, ONE), (high, ((0, 0, 4), (999, 999, 4)), ONE)), True)
        self.assert_same(are_ones(5, (high, high), (high, ((0, 0, 4), (999, 999, 4)))), False)

    def test_row_of_any_powers(self):
        self.assert_same(are_ones(5, (((999, 999, 1),), ((0, 0, 2),)), ((), ((0, 0, 3),))), True)
        self.assert_same(are_ones(5, (ONE, (), (), ()), (ONE, X, Y, ((999, 0, 1),))), True)
        self.assert_same(are_ones(5, ((), ()), (X, Y)), False)

    def test_judged(self):
        names = ("prime", "row", "thing")
        for prime in PRIMES:
            bads = [(BadPrime, NO_PRIMES), (BadRow, no_rows(prime)), None]
            self.assert_judged(are_ones, names, (prime, (X, Y, ONE), ((), (), ONE)), bads)
            self.assert_judged(are_ones, names, (prime, (X, Y), "none"), [(BadPrime, NO_PRIMES), None, None])
        self.assert_refused(BadRow, are_ones, 2, [ONE, X], (ONE, ()))


class OnesTest(OnesCase):

    def test_by_hand(self):
        self.check_found(2, (((0, 0, 1), (1, 1, 1)), X))
        self.assert_same(ones(2, (X, Y)), None)
        self.check_found(5, (X, Y, ((0, 0, 3),)))

    def test_numbers(self):
        for prime in PRIMES:
            for c in range(1, prime):
                number = ((0, 0, c),)
                for rest in [(X,), ((),), (X, Y), ((), (), ()), (((3, 3, 1),), number, ())]:
                    for row in itertools.permutations((number,) + rest):
                        self.check_found(prime, row)

    def test_nothing_but_nothing(self):
        for prime in PRIMES:
            for size in (2, 3, 4):
                self.assert_same(ones(prime, ((),) * size), None)
                self.assert_same(are_ones(prime, ((),) * size, (ONE,) * size), False)

    def test_led_from_one(self):
        for prime in PRIMES:
            source = random.Random(prime)
            for size in (2, 3, 4):
                for row in led_rows(source, prime, size, 40):
                    self.check_found(prime, row)
                    orders = list(itertools.permutations(row))
                    self.check_found(prime, source.choice(orders))
                    if size < 4:
                        self.check_found(prime, row + (drawn_poly(source, prime, 3, 6),))
                    for turn in TURNS:
                        behind = tuple(turned(prime, poly, turn) for poly in row)
                        if is_small(behind):
                            self.check_found(prime, behind)

    def test_multiples_added_keep_it(self):
        for prime in PRIMES:
            source = random.Random(prime + 10)
            for _ in range(60):
                row = list(drawn_row(source, prime, source.choice((2, 3, 4)), 2, 3))
                before = ones(prime, tuple(row)) is None
                one, other = source.sample(range(len(row)), 2)
                row[other] = summed(prime, row[other], product(prime, drawn_poly(source, prime, 1, 2), row[one]))
                if is_small(row):
                    self.assertEqual(ones(prime, tuple(row)) is None, before)
                    self.assertEqual(ones(prime, tuple(reversed(row))) is None, before)

    def test_common_factors(self):
        for prime in PRIMES:
            source = random.Random(prime + 20)
            for shared in (X, Y, ((0, 1, 1), (1, 0, 1)), ((0, 0, 1), (1, 1, 1)), ((0, 0, 1), (1, 0, 1), (3, 0, 1))):
                for size in (2, 3, 4):
                    row = tuple(product(prime, shared, poly) for poly in drawn_row(source, prime, size, 2))
                    if is_small(row):
                        self.assert_same(ones(prime, row), None)

    def test_common_zeros(self):
        for prime in PRIMES:
            source = random.Random(prime + 30)
            for _ in range(80):
                x, y = source.randrange(prime), source.randrange(prime)
                row = []
                for poly in drawn_row(source, prime, source.choice((2, 3, 4))):
                    value = at(prime, poly, x, y)
                    row.append(summed(prime, poly, ((0, 0, prime - value),) if value else ()))
                self.assert_same(ones(prime, tuple(row)), None)

    def test_zeros_in_greater_fields_alone(self):
        square = ((0, 0, 1), (1, 0, 1), (2, 0, 1))
        self.assert_same(ones(2, (square, ((0, 2, 1), (1, 0, 1)))), None)
        self.assert_same(ones(2, (square, ((0, 0, 1), (0, 1, 1), (0, 2, 1)))), None)
        self.assert_same(ones(3, (((0, 0, 1), (2, 0, 1)), Y)), None)
        self.check_found(3, (((0, 0, 1), (2, 0, 1)), X))
        self.check_found(3, (((0, 0, 1), (2, 0, 1)), ((0, 0, 2), (1, 0, 1)), Y))

    def test_drawn(self):
        for prime in PRIMES:
            source = random.Random(prime + 40)
            told = shown = 0
            for size, terms, many in ((2, 3, 60), (3, 4, 60), (3, 16, 15), (4, 4, 60), (4, 30, 15)):
                for _ in range(many):
                    row = drawn_row(source, prime, size, 3, terms)
                    found = ones(prime, row)
                    if found is not None:
                        self.check_found(prime, row)
                        told += 1
                    else:
                        shown += self.check_none(prime, row)
            self.assertGreater(told, 40)
            self.assertGreater(shown, 40)

    def check_none(self, prime, row):
        """Whether a common factor or a common zero of the row could be found, which shows that it has no ones."""
        shared = ()
        for poly in row:
            shared = common_factor(prime, shared, poly)
        if shared != ONE:
            return True
        lots = [(one, other) for one in row for other in row if one < other and one and high_slowly(other, "y") > 0]
        for one, other in lots:
            r = resultant(prime, one, other)[0]
            if r and degree(r) <= 12:
                zeros = [self.has_zero(prime, q, row) for q, _ in factors(prime, r)[1]]
                self.assertIn(True, zeros, (prime, row))
                return True
        return False

    def has_zero(self, prime, modulus, row):
        shared = ()
        for poly in row:
            shared = common_at(prime, modulus, shared, poly)[0]
        return high_slowly(shared, "y") > 0

    def test_x_polys(self):
        for prime in PRIMES:
            polys = some_polys(prime, 16, 3, letters=1, seed=30)
            source = random.Random(prime)
            for one in polys:
                for other in polys:
                    if common(prime, one, other)[0] == ONE:
                        self.check_found(prime, (one, other))
                    else:
                        self.assert_same(ones(prime, (one, other)), None)
                    third = source.choice(polys)
                    if common(prime, common(prime, one, other)[0], third)[0] == ONE:
                        self.check_found(prime, (one, other, third))
                    else:
                        self.assert_same(ones(prime, (one, other, third)), None)
                        self.assert_same(ones(prime, (third, (), one, other)), None)

    def test_polys_in_y(self):
        self.check_found(2, (((0, 0, 1), (0, 3, 1)), ((0, 2, 1),)))
        self.assert_same(ones(2, (((0, 0, 1), (0, 3, 1)), ((0, 0, 1), (0, 1, 1)))), None)

    def test_limit(self):
        for prime in PRIMES:
            highs = [((4, 0, 1),), ((0, 4, 1),), ((3, 4, 1),), ((4, 3, 1),), ((0, 0, 1), (999, 0, 1)), ((5, 5, 1),)]
            for high in highs:
                for row in ((ONE, high), (high, ONE), (X, Y, high), (high, (), (), ()), (high, high)):
                    self.assert_too_many(3, ones, prime, row)
                self.assert_refused(BadRow, ones, prime, (high,))
                self.assert_refused(BadRow, ones, prime, [high, high])
                self.assert_refused(BadRow, ones, prime, (high, None))
                self.assert_refused(BadPrime, ones, prime ** 2, (high, high))
            self.check_found(prime, (((3, 3, 1),), ((0, 0, 1), (3, 3, 1))))

    def test_judged(self):
        for prime in PRIMES:
            bads = [(BadPrime, NO_PRIMES), (BadRow, no_rows(prime))]
            self.assert_judged(ones, ("prime", "row"), (prime, (X, Y, ((0, 0, 1), (1, 1, 1)))), bads)
            for bad in no_polys(prime)[::3]:
                self.assert_refused(BadRow, ones, prime, (bad, ((4, 0, 1),)))
        self.assert_refused(BadPrime, ones, WIDE, (X,))


if __name__ == "__main__":
    unittest.main()
