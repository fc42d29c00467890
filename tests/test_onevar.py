"""Point 11: rowsfilled/onevar.py."""

import unittest

from rowsfilled.errors import BadPoly, BadPrime
from rowsfilled.onevar import common, divided, factors, is_prime_poly
from tests.judging import JudgingCase
from tests.reference import degree, product, scaled, summed
from tests.samples import NO_PRIMES, ONE, PRIMES, X, all_x_polys, no_x_polys, some_polys, x_poly

MOBIUS = {1: 1, 2: -1, 3: -1, 4: 0, 5: -1, 6: 1, 7: -1}


def x_polys(prime, many, most_power, seed=1):
    return some_polys(prime, many, most_power, letters=1, seed=seed)


def gauss(prime, several):
    return sum(MOBIUS[several // e] * prime ** e for e in range(1, several + 1) if several % e == 0) // several


def products_of_lesser(prime, several):
    """The monic polys of this degree that are products of two of lesser degree."""
    found = set()
    for low in range(1, several // 2 + 1):
        for one in all_x_polys(prime, low):
            for other in all_x_polys(prime, several - low):
                found.add(product(prime, one, other))
    return found


class DividedTest(JudgingCase):

    def test_by_hand(self):
        self.assert_same(divided(2, ((0, 0, 1), (2, 0, 1)), ((0, 0, 1), (1, 0, 1))), (((0, 0, 1), (1, 0, 1)), ()))
        self.assert_same(divided(5, ((0, 0, 1), (2, 0, 1)), ((1, 0, 2),)), (((1, 0, 3),), ONE))
        self.assert_same(divided(5, X, ((2, 0, 1),)), ((), X))
        self.assert_same(divided(5, (), X), ((), ()))
        self.assert_same(divided(5, X, ((0, 0, 2),)), (((1, 0, 3),), ()))
        self.assert_same(divided(7, ((999, 0, 1),), ((998, 0, 3),)), (((1, 0, 5),), ()))
        self.assert_same(divided(7, ((998, 0, 1),), ((999, 0, 3),)), ((), ((998, 0, 1),)))

    def test_adds_up(self):
        for prime in PRIMES:
            polys = x_polys(prime, 30, 9) + x_polys(prime, 12, 60)
            for one in polys:
                for other in polys:
                    if other == ():
                        continue
                    quotient, rest = divided(prime, one, other)
                    self.assert_same(summed(prime, product(prime, quotient, other), rest), one)
                    self.assertLess(degree(rest), degree(other))

    def test_high_degrees(self):
        quotient, rest = divided(3, ((0, 0, 2), (999, 0, 1)), ((0, 0, 2), (1, 0, 1)))
        self.assert_same((quotient, rest), (tuple((i, 0, 1) for i in range(999)), ()))

    def test_judged(self):
        for prime in PRIMES:
            wrong = no_x_polys(prime)
            bads = [(BadPrime, NO_PRIMES), (BadPoly, wrong), (BadPoly, wrong + [()])]
            self.assert_judged(divided, ("prime", "one", "other"), (prime, ((3, 0, 1),), X), bads)
            self.assert_refused(BadPoly, divided, prime, (), ())


class CommonTest(JudgingCase):

    def check(self, prime, one, other):
        told = common(prime, one, other)
        self.assertIs(told.__class__, tuple)
        g, s, t = told
        self.assert_same(summed(prime, product(prime, s, one), product(prime, t, other)), g)
        if g:
            self.assertEqual(g[-1][2], 1)
            self.assert_same(divided(prime, one, g)[1], ())
            self.assert_same(divided(prime, other, g)[1], ())
        else:
            self.assertEqual((one, other), ((), ()))
        return g

    def test_nothing(self):
        for prime in PRIMES:
            self.assert_same(self.check(prime, (), ()), ())
            for poly in x_polys(prime, 20, 6):
                expected = scaled(prime, pow(poly[-1][2], -1, prime), poly) if poly else ()
                self.assert_same(self.check(prime, poly, ()), expected)
                self.assert_same(self.check(prime, (), poly), expected)
                self.assert_same(self.check(prime, poly, poly), expected)

    def test_told_factors(self):
        for prime in PRIMES:
            for shared in x_polys(prime, 9, 4, seed=3):
                for one in x_polys(prime, 9, 5, seed=4):
                    for other in x_polys(prime, 9, 5, seed=5):
                        g = self.check(prime, product(prime, shared, one), product(prime, shared, other))
                        if g:
                            self.assert_same(divided(prime, g, shared)[1] if shared else (), ())

    def test_by_hand(self):
        self.assert_same(self.check(2, ((0, 0, 1), (2, 0, 1)), ((0, 0, 1), (1, 0, 1))), ((0, 0, 1), (1, 0, 1)))
        self.assert_same(self.check(3, ((0, 0, 2), (2, 0, 2)), ((0, 0, 1), (1, 0, 1))), ONE)
        self.assert_same(self.check(3, ((0, 0, 2),), ((5, 0, 2),)), ONE)
        self.assert_same(self.check(7, ((999, 0, 3),), ((500, 0, 5),)), ((500, 0, 1),))
        self.assert_same(self.check(7, ((0, 0, 1), (999, 0, 3)), ((0, 0, 4), (998, 0, 5))), ONE)

    def test_judged(self):
        for prime in PRIMES:
            wrong = no_x_polys(prime)
            bads = [(BadPrime, NO_PRIMES), (BadPoly, wrong), (BadPoly, wrong)]
            self.assert_judged(common, ("prime", "one", "other"), (prime, ((0, 0, 1), (3, 0, 1)), X), bads)


class IsPrimePolyTest(JudgingCase):

    def test_against_all_products(self):
        for prime, most in ((2, 7), (3, 5), (5, 3), (7, 3)):
            for several in range(1, most + 1):
                others = products_of_lesser(prime, several)
                many = 0
                for poly in all_x_polys(prime, several):
                    found = is_prime_poly(prime, poly)
                    self.assert_same(found, poly not in others)
                    many += found
                self.assertEqual(many, gauss(prime, several))

    def test_gauss_for_degree_six(self):
        self.assertEqual(sum(is_prime_poly(2, poly) for poly in all_x_polys(2, 6)), 9)
        self.assertEqual(gauss(2, 6), 9)

    def test_only_one_of_degree_two(self):
        found = [poly for poly in all_x_polys(2, 2) if is_prime_poly(2, poly)]
        self.assertEqual(found, [((0, 0, 1), (1, 0, 1), (2, 0, 1))])

    def test_not_monic_numbers_and_nothing(self):
        for prime in PRIMES:
            self.assert_same(is_prime_poly(prime, ()), False)
            for c in range(1, prime):
                self.assert_same(is_prime_poly(prime, ((0, 0, c),)), False)
                self.assert_same(is_prime_poly(prime, ((0, 0, 1), (1, 0, c))), c == 1)
                self.assert_same(is_prime_poly(prime, ((1, 0, c),)), c == 1)
        self.assert_same(is_prime_poly(3, ((0, 0, 1), (2, 0, 1))), True)
        self.assert_same(is_prime_poly(3, ((0, 0, 2), (2, 0, 2))), False)

    def test_degree_twelve(self):
        self.assert_same(is_prime_poly(2, ((0, 0, 1), (3, 0, 1), (12, 0, 1))), True)
        self.assert_same(is_prime_poly(2, ((0, 0, 1), (12, 0, 1))), False)
        self.assert_same(is_prime_poly(2, x_poly([1] * 13)), True)
        self.assert_same(is_prime_poly(3, x_poly([1] * 13)), False)
        self.assert_same(is_prime_poly(7, x_poly([1] * 13)), True)
        self.assert_same(is_prime_poly(7, ((12, 0, 1),)), False)
        self.assert_same(is_prime_poly(7, ((12, 0, 2),)), False)

    def test_degree_thirteen(self):
        for prime in PRIMES:
            for poly in [((13, 0, 1),), ((0, 0, 1), (13, 0, prime - 1)), ((999, 0, 1),), ((1, 0, 1), (14, 0, 1))]:
                self.assert_too_many(12, is_prime_poly, prime, poly)
                self.assert_too_many(12, factors, prime, poly)

    def test_judged(self):
        for prime in PRIMES:
            wrong = no_x_polys(prime) + [((0, 1, 1), (13, 0, 1)), ((13, 0, 1), (13, 1, 1))]
            self.assert_judged(is_prime_poly, ("prime", "poly"), (prime, X), [(BadPrime, NO_PRIMES), (BadPoly, wrong)])
        self.assert_refused(BadPrime, is_prime_poly, 4, ((13, 0, 1),))


class FactorsTest(JudgingCase):

    def check(self, prime, poly):
        told = factors(prime, poly)
        self.assertIs(told.__class__, tuple)
        c, several = told
        self.assertIs(several.__class__, list)
        self.assertIn(c, range(1, prime))
        again = ((0, 0, c),)
        for pair in several:
            self.assertIs(pair.__class__, tuple)
            q, times = pair
            self.assertGreaterEqual(times, 1)
            self.assert_same(is_prime_poly(prime, q), True)
            again = product(prime, again, *([q] * times))
        self.assert_same(again, poly)
        places = [(degree(q), q) for q, _ in several]
        self.assertEqual(places, sorted(set(places)))
        return told

    def test_by_hand(self):
        self.assert_same(factors(2, ((0, 0, 1), (2, 0, 1))), (1, [(((0, 0, 1), (1, 0, 1)), 2)]))
        self.assert_same(factors(2, x_poly([1, 1, 1])), (1, [(((0, 0, 1), (1, 0, 1), (2, 0, 1)), 1)]))
        self.assert_same(factors(5, ((0, 0, 3),)), (3, []))
        self.assert_same(factors(5, ONE), (1, []))
        self.assert_same(factors(5, ((2, 0, 4),)), (4, [(X, 2)]))
        # 2 x (x + 1) (x + 2): the tuple of x + 1 stands ahead of that of x + 2 and of x.
        expected = (2, [(((0, 0, 1), (1, 0, 1)), 1), (((0, 0, 2), (1, 0, 1)), 1), (X, 1)])
        self.assert_same(factors(3, ((1, 0, 1), (3, 0, 2))), expected)

    def test_lesser_degree_ahead_of_lesser_tuple(self):
        poly = product(2, X, x_poly([1, 1, 1]), x_poly([1, 1, 1]), x_poly([1, 0, 1, 1]))
        expected = [(X, 1), (x_poly([1, 1, 1]), 2), (x_poly([1, 0, 1, 1]), 1)]
        self.assert_same(factors(2, poly), (1, expected))

    def test_all_of_small_degree(self):
        for prime, most in ((2, 7), (3, 4), (5, 3), (7, 2)):
            for several in range(most + 1):
                for poly in all_x_polys(prime, several, monic=False):
                    self.check(prime, poly)

    def test_up_to_degree_twelve(self):
        for prime in PRIMES:
            for poly in x_polys(prime, 60, 12):
                if poly:
                    self.check(prime, poly)

    def test_prime_polys_many_times(self):
        for prime in PRIMES:
            for root in (X, ((0, 0, 1), (1, 0, 1))):
                for often in range(1, 13):
                    poly = product(prime, ((0, 0, prime - 1),), *([root] * often))
                    self.assert_same(self.check(prime, poly), (prime - 1, [(root, often)]))
        square = x_poly([1, 0, 1])
        for often in range(1, 7):
            self.assert_same(self.check(7, product(7, *([square] * often))), (1, [(square, often)]))
            self.assert_same(self.check(3, product(3, *([square] * often))), (1, [(square, often)]))
        low = product(2, *([X] * 4), *([((0, 0, 1), (1, 0, 1))] * 6), x_poly([1, 1, 1]))
        expected = [(((0, 0, 1), (1, 0, 1)), 6), (X, 4), (x_poly([1, 1, 1]), 1)]
        self.assert_same(self.check(2, low), (1, expected))

    def test_all_linear_ones(self):
        for prime in PRIMES:
            poly = ((1, 0, prime - 1), (prime, 0, 1))
            roots = [(((0, 0, c), (1, 0, 1)), 1) for c in range(1, prime)] + [(X, 1)]
            self.assert_same(self.check(prime, poly), (1, roots))

    def test_a_new_list_each_time(self):
        first = factors(2, ((0, 0, 1), (2, 0, 1)))
        first[1].append("changed")
        second = factors(2, ((0, 0, 1), (2, 0, 1)))
        self.assert_same(second, (1, [(((0, 0, 1), (1, 0, 1)), 2)]))
        factors(2, ONE)[1].append("changed")
        self.assert_same(factors(2, ONE), (1, []))

    def test_judged(self):
        for prime in PRIMES:
            wrong = no_x_polys(prime) + [(), ((0, 1, 1), (13, 0, 1)), ((13, 0, 1), (13, 1, 1))]
            bads = [(BadPrime, NO_PRIMES), (BadPoly, wrong)]
            self.assert_judged(factors, ("prime", "poly"), (prime, ((2, 0, 1),)), bads)
        self.assert_refused(BadPrime, factors, True, ((13, 0, 1),))


if __name__ == "__main__":
    unittest.main()
