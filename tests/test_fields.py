"""Point 21: rowsfilled/fields.py."""

import random
import unittest

from rowsfilled.errors import BadModulus, BadPoly, BadPrime
from rowsfilled.fields import common_at, inverse_at, rest_at, roots_at, times_at
from rowsfilled.onevar import factors, is_prime_poly
from rowsfilled.resultants import resultant
from tests.judging import JudgingCase
from tests.reference import degree, high_slowly, part_slowly, product, put_slowly, rest_slowly, small_field, summed
from tests.samples import (
    NO_PRIMES, ONE, PRIMES, STRANGE, X, Y, all_x_polys, drawn_poly, no_moduli, no_polys, no_x_polys, prime_polys,
    some_polys,
)

# x ** 2 + x + 1 and its field of four members, for the prime 2.
FOUR = ((0, 0, 1), (1, 0, 1), (2, 0, 1))
X_PLUS_ONE = ((0, 0, 1), (1, 0, 1))


def moduli(prime):
    """A few for each degree, of degree 12 too."""
    return [modulus for several in (1, 2, 3, 5, 12) for modulus in prime_polys(prime, several)]


def is_reduced(poly, modulus):
    return degree(poly) < degree(modulus)


class RestTest(JudgingCase):

    def test_by_hand(self):
        self.assert_same(rest_at(2, FOUR, ((2, 0, 1),)), X_PLUS_ONE)
        self.assert_same(rest_at(2, FOUR, ((3, 0, 1),)), ONE)
        self.assert_same(rest_at(2, FOUR, ((2, 3, 1), (3, 1, 1))), ((0, 1, 1), (0, 3, 1), (1, 3, 1)))
        self.assert_same(rest_at(2, X, ((0, 0, 1), (1, 0, 1), (1, 1, 1))), ONE)
        self.assert_same(rest_at(7, ((0, 0, 1), (1, 0, 1)), ((1, 5, 2),)), ((0, 5, 5),))
        self.assert_same(rest_at(2, FOUR, ()), ())
        self.assert_same(rest_at(2, FOUR, ((0, 0, 1), (1, 0, 1), (2, 0, 1))), ())

    def test_against_the_slow_way(self):
        for prime in PRIMES:
            for modulus in moduli(prime):
                for poly in some_polys(prime, 14, 30, seed=4) + some_polys(prime, 10, 5, seed=5):
                    self.assert_same(rest_at(prime, modulus, poly), rest_slowly(prime, modulus, poly))

    def test_all_powers(self):
        for prime in PRIMES:
            modulus = prime_polys(prime, 3, 1)[0]
            size = prime ** 3 - 1
            # Each member but 0, to the power of how many such there are, is 1.
            poly = ((size, 999, 1),) if size < 999 else X
            self.assert_same(rest_at(prime, modulus, poly), ((0, 999, 1),) if size < 999 else X)
            self.assert_same(rest_at(prime, X, ((0, 999, 1), (999, 998, 1))), ((0, 999, 1),))
            less_one = ((0, 0, prime - 1), (1, 0, 1))
            self.assert_same(rest_at(prime, less_one, ((999, 999, 1),)), ((0, 999, 1),))

    def test_judged(self):
        names = ("prime", "modulus", "poly")
        for prime in PRIMES:
            bads = [(BadPrime, NO_PRIMES), (BadModulus, no_moduli(prime)), (BadPoly, no_polys(prime))]
            self.assert_judged(rest_at, names, (prime, X, ((0, 0, 1), (3, 2, 1))), bads)


class ModulusTest(JudgingCase):

    def test_degrees(self):
        for prime in PRIMES:
            for several in range(1, 13):
                modulus = prime_polys(prime, several, 1)[0]
                self.assert_same(rest_at(prime, modulus, modulus), ())
                self.assert_same(rest_at(prime, modulus, product(prime, modulus, Y)), ())
                self.assert_same(rest_at(prime, modulus, ((several - 1, 2, 1),)), ((several - 1, 2, 1),))
        # x ** 13 + x ** 4 + x ** 3 + x + 1 is a prime poly for 2, which no two of lesser degree show: too high.
        self.assert_refused(BadModulus, rest_at, 2, ((0, 0, 1), (1, 0, 1), (3, 0, 1), (4, 0, 1), (13, 0, 1)), X)
        self.assert_refused(BadModulus, rest_at, 2, ((999, 0, 1),), X)

    def test_all_of_small_degree(self):
        for prime, most in ((2, 5), (3, 3), (5, 2), (7, 2)):
            for several in range(most + 1):
                for poly in all_x_polys(prime, several, monic=False):
                    if is_prime_poly(prime, poly):
                        self.assert_same(rest_at(prime, poly, poly), ())
                    else:
                        self.assert_refused(BadModulus, rest_at, prime, poly, X)

    def test_first_wrong_one_tells_the_error(self):
        for function, rest in ((rest_at, (X,)), (times_at, (X, X)), (inverse_at, (X,)), (common_at, (X, X))):
            self.assert_refused(BadPrime, function, 4, (), *rest)
            self.assert_refused(BadModulus, function, 2, (), *[None for _ in rest])


class TimesTest(JudgingCase):

    def test_by_hand(self):
        self.assert_same(times_at(2, FOUR, X, X), X_PLUS_ONE)
        self.assert_same(times_at(2, FOUR, X, X_PLUS_ONE), ONE)
        self.assert_same(times_at(2, FOUR, X, ()), ())
        self.assert_same(times_at(2, FOUR, Y, ((2, 3, 1),)), ((0, 4, 1), (1, 4, 1)))

    def test_against_the_slow_way(self):
        for prime in PRIMES:
            for modulus in moduli(prime):
                polys = some_polys(prime, 9, 14, seed=6)
                for one in polys:
                    for other in polys:
                        expected = rest_slowly(prime, modulus, product(prime, one, other))
                        self.assert_same(times_at(prime, modulus, one, other), expected)

    def test_powers_on_the_way(self):
        self.assert_same(times_at(2, FOUR, ((999, 0, 1),), ((999, 0, 1),)), ONE)
        self.assert_same(times_at(2, FOUR, ((998, 0, 1),), ((999, 1, 1),)), ((0, 1, 1), (1, 1, 1)))
        # The part for y to the 999 is a multiple of the modulus.
        high = ((0, 1, 1), (0, 999, 1), (1, 999, 1), (2, 999, 1))
        self.assert_same(times_at(2, FOUR, high, high), ((0, 2, 1),))
        self.assert_same(times_at(2, FOUR, ((0, 500, 1),), ((0, 499, 1),)), ((0, 999, 1),))
        self.assert_too_many(999, times_at, 2, FOUR, ((0, 500, 1),), ((0, 500, 1),))
        self.assert_too_many(999, times_at, 2, FOUR, ((1, 999, 1),), Y)
        self.assert_refused(BadPoly, times_at, 2, FOUR, ((0, 999, 1),), ((0, 999, 2),))

    def test_judged(self):
        names = ("prime", "modulus", "one", "other")
        for prime in PRIMES:
            wrong = no_polys(prime)
            bads = [(BadPrime, NO_PRIMES), (BadModulus, no_moduli(prime)), (BadPoly, wrong), (BadPoly, wrong)]
            self.assert_judged(times_at, names, (prime, X, ((0, 2, 1), (3, 1, 1)), ((0, 0, 1), (1, 1, 1))), bads)


class InverseTest(JudgingCase):

    def test_by_hand(self):
        self.assert_same(inverse_at(2, FOUR, X), X_PLUS_ONE)
        self.assert_same(inverse_at(2, FOUR, ((2, 0, 1),)), X)
        self.assert_same(inverse_at(7, X, ((0, 0, 3), (1, 0, 1))), ((0, 0, 5),))

    def test_whole_fields(self):
        for prime, several in ((2, 1), (2, 2), (2, 3), (2, 4), (3, 1), (3, 2), (3, 3), (5, 1), (5, 2), (7, 1), (7, 2)):
            for modulus in prime_polys(prime, several):
                for poly in small_field(prime, several)[1:]:
                    inverse = inverse_at(prime, modulus, poly)
                    self.assertTrue(is_reduced(inverse, modulus))
                    self.assert_same(rest_slowly(prime, modulus, product(prime, poly, inverse)), ONE)

    def test_not_reduced(self):
        for prime in PRIMES:
            for modulus in moduli(prime):
                for poly in some_polys(prime, 12, 40, letters=1, seed=7) + [((999, 0, 1),)]:
                    if rest_slowly(prime, modulus, poly) == ():
                        self.assert_refused(BadPoly, inverse_at, prime, modulus, poly)
                        continue
                    inverse = inverse_at(prime, modulus, poly)
                    self.assertTrue(is_reduced(inverse, modulus))
                    self.assert_same(rest_slowly(prime, modulus, product(prime, poly, inverse)), ONE)

    def test_multiples_of_the_modulus(self):
        for prime in PRIMES:
            for modulus in moduli(prime):
                for poly in some_polys(prime, 8, 9, letters=1, seed=8):
                    self.assert_refused(BadPoly, inverse_at, prime, modulus, product(prime, modulus, poly))

    def test_judged(self):
        names = ("prime", "modulus", "poly")
        for prime in PRIMES:
            wrong = no_x_polys(prime) + [(), ((2, 0, 1),)]
            bads = [(BadPrime, NO_PRIMES), (BadModulus, no_moduli(prime)), (BadPoly, wrong)]
            self.assert_judged(inverse_at, names, (prime, X, ((0, 0, 1), (3, 0, 1))), bads)


class CommonTest(JudgingCase):

    def check(self, prime, modulus, one, other):
        told = common_at(prime, modulus, one, other)
        self.assertIs(told.__class__, tuple)
        g, s, t = told
        for poly in told:
            self.assertTrue(is_reduced(poly, modulus))
        both = summed(prime, product(prime, s, one), product(prime, t, other))
        self.assert_same(rest_slowly(prime, modulus, both), g)
        if g == ():
            self.assert_same(rest_slowly(prime, modulus, one), ())
            self.assert_same(rest_slowly(prime, modulus, other), ())
        else:
            self.assert_same(part_slowly(g, high_slowly(g, "y")), ONE)
            self.assert_same(self.rest_by(prime, modulus, one, g), ())
            self.assert_same(self.rest_by(prime, modulus, other, g), ())
        return g

    def rest_by(self, prime, modulus, poly, g):
        """What g, with the highest part 1, leaves modulo the modulus."""
        rest, top = rest_slowly(prime, modulus, poly), high_slowly(g, "y")
        while high_slowly(rest, "y") >= top:
            power = high_slowly(rest, "y")
            share = product(prime, part_slowly(rest, power), ((0, power - top, prime - 1),))
            rest = rest_slowly(prime, modulus, summed(prime, rest, product(prime, share, g)))
        return rest

    def test_by_hand(self):
        g = self.check(2, FOUR, ((0, 2, 1), (1, 0, 1)), ((0, 0, 1), (0, 1, 1), (1, 0, 1)))
        self.assert_same(g, ((0, 0, 1), (0, 1, 1), (1, 0, 1)))
        self.assert_same(self.check(5, X, ((0, 1, 2), (1, 3, 1)), ((0, 2, 3),)), Y)
        self.assert_same(self.check(5, X, ((0, 0, 2), (1, 3, 1)), ((0, 2, 3),)), ONE)

    def test_drawn(self):
        for prime in PRIMES:
            for modulus in moduli(prime):
                polys = some_polys(prime, 9, 6, seed=9)
                for one in polys:
                    for other in polys:
                        self.check(prime, modulus, one, other)

    def test_common_factor_built_in(self):
        for prime in PRIMES:
            for modulus in moduli(prime):
                for shared in (Y, ((0, 1, 1), (1, 0, 1)), ((0, 3, 1), (1, 1, 1), (2, 0, 1))):
                    polys = some_polys(prime, 7, 4, seed=10)
                    for one in polys:
                        for other in polys:
                            first, second = product(prime, shared, one), product(prime, shared, other)
                            g = self.check(prime, modulus, first, second)
                            if g != ():
                                # shared has the highest part 1, and divides what is common.
                                self.assert_same(self.rest_by(prime, modulus, g, shared), ())

    def test_nothing(self):
        for prime in PRIMES:
            for modulus in moduli(prime):
                multiple = product(prime, modulus, ((0, 0, 1), (0, 3, 1), (1, 1, 1)))
                for nothing in ((), multiple):
                    self.assert_same(self.check(prime, modulus, nothing, ()), ())
                    self.assert_same(self.check(prime, modulus, nothing, multiple), ())
                    self.assert_same(self.check(prime, modulus, nothing, ((0, 2, prime - 1), (0, 3, 1)))[-1], (0, 3, 1))
                    self.assert_same(self.check(prime, modulus, ((0, 2, prime - 1),), nothing), ((0, 2, 1),))
                    self.assert_same(self.check(prime, modulus, nothing, ((0, 0, prime - 1),)), ONE)

    def test_resultant_of_a_plain_one(self):
        for prime in PRIMES:
            source = random.Random(prime)
            for _ in range(40):
                one = summed(prime, ((0, 3, prime - 1),), drawn_poly(source, prime, 2, 4))
                other = drawn_poly(source, prime, 3, 4)
                if other == ():
                    continue
                r = resultant(prime, one, other)[0]
                for modulus in prime_polys(prime, 1, 7) + prime_polys(prime, 2) + prime_polys(prime, 3):
                    g = common_at(prime, modulus, one, other)[0]
                    self.assertEqual(rest_slowly(prime, modulus, r) == (), high_slowly(g, "y") > 0)
                if r != () and degree(r) in range(1, 13):
                    for modulus, _ in factors(prime, r)[1]:
                        self.assertGreater(high_slowly(common_at(prime, modulus, one, other)[0], "y"), 0)

    def test_powers_up_to_forty(self):
        for prime in PRIMES:
            polys = some_polys(prime, 8, 40, most_terms=30, seed=11)[4:]
            for modulus in prime_polys(prime, 2, 1) + prime_polys(prime, 12, 1):
                for one, other in zip(polys, polys[1:]):
                    self.check(prime, modulus, one, other)
        self.check(2, X, ((0, 0, 1), (0, 999, 1)), ((0, 0, 1), (0, 998, 1)))

    def test_judged(self):
        names = ("prime", "modulus", "one", "other")
        for prime in PRIMES:
            wrong = no_polys(prime)
            bads = [(BadPrime, NO_PRIMES), (BadModulus, no_moduli(prime)), (BadPoly, wrong), (BadPoly, wrong)]
            self.assert_judged(common_at, names, (prime, X, ((0, 2, 1), (3, 1, 1)), ((0, 0, 1), (1, 1, 1))), bads)


class RootsTest(JudgingCase):

    def test_by_hand(self):
        self.assert_same(roots_at(2, FOUR, ((0, 2, 1), (1, 0, 1))), [X_PLUS_ONE])
        self.assert_same(roots_at(2, FOUR, ONE), [])
        self.assert_same(roots_at(3, X, ((0, 1, 2), (0, 3, 1))), [(), ONE, ((0, 0, 2),)])
        self.assert_same(roots_at(2, FOUR, ((0, 1, 1), (0, 4, 1))), [(), ONE, X_PLUS_ONE, X])

    def test_against_trying_all(self):
        for prime, several in ((2, 1), (2, 2), (2, 3), (3, 1), (3, 2), (5, 1), (7, 1)):
            for modulus in prime_polys(prime, several):
                for poly in some_polys(prime, 12, 4, seed=12)[1:] + [((0, 1, prime - 1), (0, prime ** several, 1))]:
                    expected = []
                    for z in sorted(small_field(prime, several)):
                        if rest_slowly(prime, modulus, put_slowly(prime, poly, X, z)) == ():
                            expected.append(z)
                    if rest_slowly(prime, modulus, poly) == ():
                        self.assert_refused(BadPoly, roots_at, prime, modulus, poly)
                    else:
                        found = roots_at(prime, modulus, poly)
                        self.assertIs(found.__class__, list)
                        self.assert_same(found, expected)

    def test_products(self):
        for prime in PRIMES:
            modulus = prime_polys(prime, 2, 1)[0]
            places = small_field(prime, 2)[1::3]
            factor_of = [summed(prime, Y, product(prime, place, ((0, 0, prime - 1),))) for place in places[:5]]
            self.assert_same(roots_at(prime, modulus, product(prime, *factor_of, *factor_of)), sorted(places[:5]))

    def test_greatest_fields(self):
        for prime, several in ((2, 8), (3, 5), (5, 3), (7, 2)):
            modulus = prime_polys(prime, several, 1)[0]
            expected = sorted({X, ((1, 0, prime - 1),)})
            self.assert_same(roots_at(prime, modulus, ((0, 2, 1), (2, 0, prime - 1))), expected)
            if several > 3:
                self.assertEqual(len(roots_at(prime, modulus, ((0, 1, prime - 1), (0, prime ** several, 1)))),
                                 prime ** several)
            wider = prime_polys(prime, several + 1, 1)[0]
            self.assert_too_many(300, roots_at, prime, wider, Y)
            self.assert_too_many(300, roots_at, prime, prime_polys(prime, 12, 1)[0], ONE)
            self.assert_refused(BadPoly, roots_at, prime, wider, ())
            self.assert_refused(BadPoly, roots_at, prime, wider, product(prime, wider, ((0, 0, 1), (2, 2, 1))))
            self.assert_refused(BadPoly, roots_at, prime, wider, ((0, 0, prime),))
            self.assert_refused(BadModulus, roots_at, prime, product(prime, wider, X), ONE)

    def test_a_new_list_each_time(self):
        roots_at(2, FOUR, Y).append(1)
        self.assert_same(roots_at(2, FOUR, Y), [()])
        roots_at(2, FOUR, ONE).append(1)
        self.assert_same(roots_at(2, FOUR, ONE), [])

    def test_judged(self):
        names = ("prime", "modulus", "poly")
        for prime in PRIMES:
            wrong = no_polys(prime) + [(), X, ((1, 3, 1), (2, 0, 1))]
            bads = [(BadPrime, NO_PRIMES), (BadModulus, no_moduli(prime)), (BadPoly, wrong)]
            self.assert_judged(roots_at, names, (prime, X, ((0, 1, 1), (3, 2, 1))), bads)
        for value in STRANGE:
            self.assert_refused(BadPoly, roots_at, 2, prime_polys(2, 12, 1)[0], value)


if __name__ == "__main__":
    unittest.main()
