"""Point 10: rowsfilled/polys.py."""

import unittest

from rowsfilled.errors import BadLetter, BadPoly, BadPower, BadPrime
from rowsfilled.polys import high, is_poly, lead, less, part, plus, put, times
from tests.judging import JudgingCase
from tests.reference import at, product, put_slowly, scaled, summed
from tests.samples import (
    NO_PRIMES, NO_TERMS, ONE, PRIMES, STRANGE, WIDE, X, Y, no_polys, nested, some_polys,
)

EDGE = ((0, 0, 1), (0, 999, 1), (999, 0, 1), (999, 999, 1))


class IsPolyTest(JudgingCase):

    def test_polys(self):
        for prime in PRIMES:
            top = prime - 1
            for poly in [(), ONE, X, Y, EDGE, ((0, 0, top),), ((999, 999, top),), ((0, 1, top), (1, 0, 1))]:
                self.assert_same(is_poly(prime, poly), True)
            for poly in some_polys(prime, 60, 999):
                self.assert_same(is_poly(prime, poly), True)

    def test_no_polys(self):
        for prime in PRIMES:
            for thing in no_polys(prime):
                with self.subTest(prime=prime, thing=repr(thing)[:80]):
                    self.assert_same(is_poly(prime, thing), False)

    def test_wrong_terms_behind_right_ones(self):
        for term in NO_TERMS:
            self.assert_same(is_poly(7, ((0, 0, 6), (0, 5, 1), term)), False)
            self.assert_same(is_poly(7, (term, (998, 5, 1), (999, 5, 1))), False)

    def test_c_of_each_prime(self):
        for prime in PRIMES:
            found = [c for c in range(-10, 20) if is_poly(prime, ((3, 4, c),))]
            self.assertEqual(found, list(range(1, prime)))

    def test_powers(self):
        for power in (-WIDE, -1, 1000, 1001, WIDE):
            self.assert_same(is_poly(5, ((power, 0, 1),)), False)
            self.assert_same(is_poly(5, ((0, power, 1),)), False)
        for power in (0, 1, 998, 999):
            self.assert_same(is_poly(5, ((power, 3, 1),)), True)
            self.assert_same(is_poly(5, ((3, power, 1),)), True)

    def test_sequence_of_terms(self):
        self.assert_same(is_poly(3, ((0, 5, 1), (1, 0, 2), (1, 1, 1))), True)
        self.assert_same(is_poly(3, ((1, 0, 2), (0, 5, 1))), False)
        self.assert_same(is_poly(3, ((0, 0, 1), (0, 0, 2))), False)
        self.assert_same(is_poly(3, ((0, 0, 2), (0, 0, 1))), False)
        self.assert_same(is_poly(3, ((0, 1, 1), (0, 2, 1), (0, 1, 1))), False)

    def test_deep_nesting(self):
        for kind in ("list", "tuple", "dict"):
            for levels in (1, 2, 3, 4, 79, 80):
                self.assert_same(is_poly(2, nested(kind, levels)), False)

    def test_prime(self):
        self.assert_judged(is_poly, ("prime", "thing"), (2, X), [(BadPrime, NO_PRIMES), None])
        for prime in NO_PRIMES:
            self.assert_refused(BadPrime, is_poly, prime, nested("list", 80))


class SumsTest(JudgingCase):

    def test_by_hand(self):
        self.assert_same(plus(3, ((0, 1, 1), (1, 0, 1)), ((0, 1, 2), (1, 0, 1))), ((1, 0, 2),))
        self.assert_same(less(3, ((0, 1, 1), (1, 0, 1)), ((0, 1, 2), (1, 0, 1))), ((0, 1, 2),))
        self.assert_same(plus(2, X, X), ())
        self.assert_same(less(2, (), X), X)
        self.assert_same(less(7, (), X), ((1, 0, 6),))
        self.assert_same(plus(5, EDGE, ()), EDGE)
        self.assert_same(less(5, EDGE, EDGE), ())
        self.assert_same(plus(5, ((999, 999, 4),), ((999, 999, 1),)), ())

    def test_against_the_slow_way(self):
        for prime in PRIMES:
            polys = some_polys(prime, 24, 3)
            for one in polys:
                for other in polys:
                    self.assert_same(plus(prime, one, other), summed(prime, one, other))
                    self.assert_same(less(prime, one, other), summed(prime, one, scaled(prime, -1, other)))

    def test_judged(self):
        for function in (plus, less, times):
            for prime in PRIMES:
                bads = [(BadPrime, NO_PRIMES), (BadPoly, no_polys(prime)), (BadPoly, no_polys(prime))]
                self.assert_judged(function, ("prime", "one", "other"), (prime, X, ((0, 0, 1), (1, 1, 1))), bads)


class TimesTest(JudgingCase):

    def test_by_hand(self):
        both = ((0, 1, 1), (1, 0, 1))
        square = ((0, 2, 1), (1, 1, 2), (2, 0, 1))
        self.assert_same(times(3, both, both), square)
        self.assert_same(times(2, both, both), ((0, 2, 1), (2, 0, 1)))
        self.assert_same(times(3, both, ((0, 1, 2), (1, 0, 1))), ((0, 2, 2), (2, 0, 1)))
        self.assert_same(times(3, both, ()), ())
        self.assert_same(times(3, (), both), ())
        self.assert_same(times(3, (), ()), ())
        self.assert_same(times(5, EDGE, ONE), EDGE)

    def test_against_the_slow_way(self):
        for prime in PRIMES:
            polys = some_polys(prime, 24, 4)
            for one in polys:
                for other in polys:
                    self.assert_same(times(prime, one, other), product(prime, one, other))

    def test_limit(self):
        self.assert_same(times(2, ((500, 0, 1),), ((499, 0, 1),)), ((999, 0, 1),))
        self.assert_same(times(2, ((0, 500, 1),), ((0, 499, 1),)), ((0, 999, 1),))
        self.assert_same(times(2, ((999, 0, 1),), ((0, 999, 1),)), ((999, 999, 1),))
        self.assert_same(times(2, ((999, 999, 1),), ()), ())
        self.assert_too_many(999, times, 2, ((500, 0, 1),), ((500, 0, 1),))
        self.assert_too_many(999, times, 2, ((0, 500, 1),), ((0, 500, 1),))
        self.assert_too_many(999, times, 7, ((0, 0, 1), (500, 0, 6)), ((0, 0, 2), (500, 0, 1)))
        self.assert_too_many(999, times, 7, EDGE, EDGE)

    def test_limit_behind_other_errors(self):
        high_one = ((999, 999, 1),)
        self.assert_refused(BadPoly, times, 2, high_one, ((1000, 0, 1),))
        self.assert_refused(BadPoly, times, 2, ((0, 1000, 1),), high_one)
        self.assert_refused(BadPrime, times, 4, high_one, high_one)


class PartsTest(JudgingCase):

    def test_high(self):
        poly = ((0, 7, 1), (2, 9, 1), (5, 0, 1))
        self.assert_same(high(2, poly, "x"), 5)
        self.assert_same(high(2, poly, "y"), 9)
        self.assert_same(high(2, (), "x"), -1)
        self.assert_same(high(2, (), "y"), -1)
        self.assert_same(high(2, ONE, "x"), 0)
        self.assert_same(high(2, ONE, "y"), 0)
        self.assert_same(high(7, EDGE, "x"), 999)
        self.assert_same(high(7, EDGE, "y"), 999)
        self.assert_same(high(3, ((0, 2, 1), (1, 1, 2), (2, 0, 1)), "y"), 2)

    def test_high_judged(self):
        letters = STRANGE + ["X", "Y", "z", "x ", 0, 1, (), [], {}, ["x"], ("y",), b"x"]
        for prime in PRIMES:
            bads = [(BadPrime, NO_PRIMES), (BadPoly, no_polys(prime)), (BadLetter, letters)]
            self.assert_judged(high, ("prime", "poly", "letter"), (prime, X, "x"), bads)
            self.assert_refused(BadLetter, high, prime, (), "xy")

    def test_part(self):
        poly = ((0, 1, 1), (1, 1, 2), (2, 0, 1), (3, 1, 1), (999, 999, 2))
        self.assert_same(part(3, poly, 0), ((2, 0, 1),))
        self.assert_same(part(3, poly, 1), ((0, 0, 1), (1, 0, 2), (3, 0, 1)))
        self.assert_same(part(3, poly, 2), ())
        self.assert_same(part(3, poly, 999), ((999, 0, 2),))
        self.assert_same(part(3, (), 0), ())
        self.assert_same(part(3, ((0, 2, 1), (1, 1, 2), (2, 0, 1)), 1), ((1, 0, 2),))

    def test_parts_add_up(self):
        for prime in PRIMES:
            for poly in some_polys(prime, 30, 5):
                shares = [product(prime, part(prime, poly, j), ((0, j, 1),)) for j in range(6)]
                self.assert_same(summed(prime, *shares), poly)

    def test_part_judged(self):
        powers = STRANGE + [-1, 1000, 1001, (), [], {}, "0", [0], (0,)]
        for prime in PRIMES:
            bads = [(BadPrime, NO_PRIMES), (BadPoly, no_polys(prime)), (BadPower, powers)]
            self.assert_judged(part, ("prime", "poly", "power"), (prime, Y, 1), bads)

    def test_lead(self):
        self.assert_same(lead(3, ((0, 2, 1), (1, 1, 2), (2, 0, 1))), (2, 0, 1))
        self.assert_same(lead(3, ((0, 3, 1), (2, 0, 1))), (0, 3, 1))
        self.assert_same(lead(3, ((0, 3, 1), (1, 2, 2), (2, 0, 1))), (1, 2, 2))
        self.assert_same(lead(3, ((0, 999, 1), (999, 0, 2))), (999, 0, 2))
        self.assert_same(lead(3, ((0, 0, 2),)), (0, 0, 2))
        self.assert_same(lead(3, EDGE), (999, 999, 1))

    def test_lead_judged(self):
        for prime in PRIMES:
            bads = [(BadPrime, NO_PRIMES), (BadPoly, no_polys(prime) + [()])]
            self.assert_judged(lead, ("prime", "poly"), (prime, X), bads)


class PutTest(JudgingCase):

    def test_by_hand(self):
        found = put(3, ((1, 1, 1),), ((0, 0, 1), (1, 0, 1)), ((0, 0, 1), (0, 1, 1)))
        self.assert_same(found, ((0, 0, 1), (0, 1, 1), (1, 0, 1), (1, 1, 1)))
        self.assert_same(put(5, ((0, 0, 3), (1, 0, 1), (0, 0, 0))[:2], (), ()), ((0, 0, 3),))
        self.assert_same(put(5, (), X, Y), ())
        self.assert_same(put(5, EDGE, X, Y), EDGE)
        self.assert_same(put(5, ((1, 2, 1),), Y, X), ((2, 1, 1),))
        self.assert_same(put(5, ((1, 2, 4),), ((0, 0, 2),), ((0, 0, 3),)), ((0, 0, 2),))
        self.assert_same(put(5, ((1, 2, 4),), (), X), ())
        self.assert_same(put(5, ((1, 2, 4),), X, ()), ())

    def test_against_the_slow_way(self):
        for prime in PRIMES:
            polys = some_polys(prime, 14, 4, most_terms=4)
            for poly in polys:
                for one in polys[::2]:
                    for other in polys[1::2]:
                        self.assert_same(put(prime, poly, one, other), put_slowly(prime, poly, one, other))

    def test_high_powers_against_values(self):
        for prime in PRIMES:
            for poly in some_polys(prime, 20, 120, most_terms=9):
                one, other = ((0, 1, 1), (1, 0, 1)), ((0, 0, prime - 1), (1, 1, 1))
                found = put(prime, poly, one, other)
                for x in range(prime):
                    for y in range(prime):
                        expected = at(prime, poly, at(prime, one, x, y), at(prime, other, x, y))
                        self.assertEqual(at(prime, found, x, y), expected)

    def test_binomials(self):
        for prime in PRIMES:
            for power in (1, 2, 6, 7, 8, 30, 49, 100, 343, 998, 999):
                row = [1]
                for _ in range(power):
                    row = [(c + d) % prime for c, d in zip([0] + row, row + [0])]
                expected = tuple((i, 0, c) for i, c in enumerate(row) if c)
                self.assert_same(put(prime, ((power, 0, 1),), ((0, 0, 1), (1, 0, 1)), Y), expected)
                self.assert_same(put(prime, ((0, power, 1),), Y, ((0, 0, 1), (1, 0, 1))), expected)

    def test_limit(self):
        self.assert_same(put(2, ((3, 0, 1),), ((333, 0, 1),), Y), ((999, 0, 1),))
        self.assert_same(put(2, ((0, 3, 1),), Y, ((0, 333, 1),)), ((0, 999, 1),))
        self.assert_too_many(999, put, 2, ((2, 0, 1),), ((500, 0, 1),), Y)
        self.assert_too_many(999, put, 2, ((0, 2, 1),), X, ((0, 500, 1),))
        self.assert_too_many(999, put, 2, ((2, 0, 1),), ((0, 500, 1),), Y)
        self.assert_too_many(999, put, 2, ((1, 1, 1),), ((500, 0, 1),), ((500, 0, 1),))
        self.assert_too_many(999, put, 7, EDGE, ((0, 0, 1), (999, 0, 1)), ((0, 999, 1),))

    def test_powers_on_the_way(self):
        for prime in PRIMES:
            minus = prime - 1
            difference = ((0, 2, minus), (2, 0, 1))
            self.assert_same(put(prime, difference, ((600, 0, 1),), ((600, 0, 1),)), ())
            found = put(prime, difference, ((0, 0, 1), (600, 0, 1)), ((600, 0, 1),))
            self.assert_same(found, summed(prime, ONE, ((600, 0, 1),), ((600, 0, 1),)))
            self.assert_same(put(prime, ((999, 999, 1),), (), ((999, 0, 1),)), ())
            # x * x - x * y: both products have y ** 1200, their difference has not.
            one, other = ((0, 600, 1),), ((0, 0, 1), (0, 600, 1))
            self.assert_same(put(prime, ((1, 1, minus), (2, 0, 1)), one, other), ((0, 600, minus),))
            self.assert_too_many(999, put, prime, ((0, 2, 1), (1, 1, minus), (2, 0, 1)), one, other)

    def test_all_low_but_the_result(self):
        self.assert_too_many(999, put, 3, ((40, 0, 1),), ((25, 0, 1),), Y)
        self.assert_too_many(999, put, 3, ((0, 0, 1), (40, 0, 1)), ((0, 0, 1), (0, 25, 1)), Y)

    def test_judged(self):
        for prime in PRIMES:
            bads = [(BadPrime, NO_PRIMES)] + [(BadPoly, no_polys(prime))] * 3
            names = ("prime", "poly", "one", "other")
            self.assert_judged(put, names, (prime, ((1, 1, 1),), Y, ((0, 0, 1), (1, 0, 1))), bads)
        self.assert_refused(BadPoly, put, 2, ((999, 0, 1),), ((999, 0, 1),), ((1000, 0, 1),))
        self.assert_refused(BadPoly, put, 2, (), (), [])


class ManyTermsTest(JudgingCase):

    def test_sums_and_products_with_many_terms(self):
        prime = 7
        full = tuple((i, 0, 1) for i in range(500))
        self.assert_same(times(prime, full, ((0, 0, 6), (1, 0, 1))), ((0, 0, 6), (500, 0, 1)))
        self.assert_same(less(prime, full, full[:499]), ((499, 0, 1),))
        self.assert_same(plus(prime, full[:250], full[250:]), full)


if __name__ == "__main__":
    unittest.main()
