"""Point 22: rowsfilled/commons.py."""

import random
import unittest

from rowsfilled.commons import common_factor, quotient
from rowsfilled.errors import BadPoly, BadPrime
from rowsfilled.fields import common_at
from tests.judging import JudgingCase
from tests.reference import product, scaled, summed
from tests.samples import NO_PRIMES, ONE, PRIMES, X, Y, drawn_poly, no_polys, prime_polys, some_polys

# Their products in both letters have no common factors but those they are given.
APART = [((0, 1, 1), (1, 0, 1)), ((0, 0, 1), (1, 1, 1)), ((0, 2, 1), (1, 0, 1)), ((0, 1, 1), (3, 0, 1)), X, Y]


def last_term(poly):
    return max(poly, key=lambda term: (term[1], term[0]))


def with_one(prime, poly):
    """The poly times a number, c being 1 in its last term."""
    return scaled(prime, pow(last_term(poly)[2], -1, prime), poly) if poly else ()


class CommonFactorTest(JudgingCase):

    def check(self, prime, one, other):
        g = common_factor(prime, one, other)
        if g == ():
            self.assertEqual((one, other), ((), ()))
            return g
        self.assertEqual(last_term(g)[2], 1)
        first, second = quotient(prime, one, g), quotient(prime, other, g)
        self.assert_same(product(prime, first, g), one)
        self.assert_same(product(prime, second, g), other)
        self.assert_same(common_factor(prime, first, second), ONE)
        self.assert_same(common_factor(prime, other, one), g)
        return g

    def test_by_hand(self):
        one, other = ((0, 2, 2), (2, 0, 1)), ((0, 2, 1), (1, 1, 2), (2, 0, 1))
        self.assert_same(self.check(3, one, other), ((0, 1, 1), (1, 0, 1)))
        self.assert_same(quotient(3, one, ((0, 1, 1), (1, 0, 1))), ((0, 1, 2), (1, 0, 1)))
        self.assert_same(quotient(3, X, Y), None)

    def test_last_term(self):
        # y has the greater power of y, 2 x ** 3 the greater one of x: y tells.
        poly = ((0, 1, 2), (3, 0, 1))
        self.assert_same(self.check(5, poly, product(5, poly, X)), ((0, 1, 1), (3, 0, 3)))
        poly = ((1, 2, 3), (2, 2, 4), (9, 1, 1))
        self.assert_same(self.check(5, poly, poly), ((1, 2, 2), (2, 2, 1), (9, 1, 4)))
        self.assert_same(self.check(5, ((1, 0, 2), (2, 0, 3)), ()), ((1, 0, 4), (2, 0, 1)))

    def test_nothing(self):
        for prime in PRIMES:
            self.assert_same(self.check(prime, (), ()), ())
            for poly in some_polys(prime, 25, 5, seed=20):
                self.assert_same(self.check(prime, poly, ()), with_one(prime, poly))
                self.assert_same(self.check(prime, (), poly), with_one(prime, poly))
                self.assert_same(self.check(prime, poly, poly), with_one(prime, poly))
                self.assert_same(self.check(prime, poly, ((0, 0, prime - 1),)), ONE)

    def test_nothing_in_common(self):
        for prime in PRIMES:
            for one in APART:
                for other in APART:
                    if one != other:
                        self.assert_same(self.check(prime, one, product(prime, other, other)), ONE)

    def test_built_in(self):
        for prime in PRIMES:
            shared = [ONE, X, Y, ((0, 0, 1), (2, 0, 1)), ((0, 0, 1), (0, 3, prime - 1)), ((0, 0, prime - 1), (2, 3, 1))]
            for g in shared:
                for one in some_polys(prime, 9, 3, seed=21)[1:]:
                    for other in some_polys(prime, 9, 3, seed=22)[1:]:
                        found = self.check(prime, product(prime, g, one), product(prime, g, other))
                        self.assert_same(product(prime, quotient(prime, found, g), g), found)
                        rest = common_factor(prime, one, other)
                        self.assert_same(found, with_one(prime, product(prime, g, rest)))

    def test_many_times(self):
        for prime in PRIMES:
            for g in APART + [((0, 0, 1), (1, 0, 1))]:
                for first, second in ((1, 4), (4, 1), (3, 3), (2, 5)):
                    one = product(prime, *[g] * first, ((0, 0, 1), (1, 2, 1)))
                    other = product(prime, *[g] * second, ((0, 0, prime - 1), (0, 1, 1), (2, 1, 1)))
                    expected = with_one(prime, product(prime, *[g] * min(first, second)))
                    self.assert_same(self.check(prime, one, other), expected)

    def test_known_products(self):
        for prime in PRIMES:
            source = random.Random(prime)
            for _ in range(60):
                often = [(source.randint(0, 3), source.randint(0, 3)) for _ in APART]
                one = product(prime, *[g for g, (m, _) in zip(APART, often) for _ in range(m)])
                other = product(prime, *[g for g, (_, m) in zip(APART, often) for _ in range(m)])
                both = product(prime, *[g for g, pair in zip(APART, often) for _ in range(min(pair))])
                number = ((0, 0, source.randint(1, prime - 1)),)
                self.assert_same(self.check(prime, product(prime, number, one), other), with_one(prime, both))

    def test_each_common_factor_divides(self):
        for prime in (2, 3):
            source = random.Random(prime)
            for _ in range(80):
                parts = [drawn_poly(source, prime, 2, 3) or ONE for _ in range(4)]
                one, other = product(prime, *parts[:3]), product(prime, *parts[1:])
                found = self.check(prime, one, other)
                for shared in (parts[1], parts[2], product(prime, parts[1], parts[2])):
                    self.assertIsNotNone(quotient(prime, found, shared))

    def test_powers_without_slope(self):
        # Polys to the power prime: all their slopes are ().
        for prime in PRIMES:
            for g in APART:
                self.assert_same(self.check(prime, product(prime, *[g] * prime), g), with_one(prime, g))
                one, other = ((0, prime, 1), (prime, 0, 1)), ((0, 1, 1), (1, 0, 1))
                self.assert_same(self.check(prime, one, other), other)

    def apart(self, prime, source, most_power):
        """Two polys of many parts, plain and without a common factor with y, so without any."""
        modulus = prime_polys(prime, 5, 1)[0]
        while True:
            low = [drawn_poly(source, prime, most_power, 12) for _ in range(2)]
            tops = [((0, most_power + k, prime - 1),) for k in (1, 2)]
            one, other = [summed(prime, poly, top) for poly, top in zip(low, tops)]
            if common_at(prime, modulus, one, other)[0] == ONE:
                return one, other

    def test_many_parts(self):
        for prime in PRIMES:
            source = random.Random(prime + 1)
            for most_power in (5, 6, 9):
                one, other = self.apart(prime, source, most_power)
                self.assert_same(self.check(prime, one, other), ONE)
                for size, terms in ((1, 3), (6, 20), (20, 9)):
                    g = drawn_poly(source, prime, size, terms) or X
                    found = self.check(prime, product(prime, g, one), product(prime, g, other))
                    self.assert_same(found, with_one(prime, g))
                    times = ((0, 1, 1), (2, 0, 1))
                    found = self.check(prime, product(prime, g, g, one), product(prime, g, other, times))
                    rest = common_factor(prime, product(prime, g, one), product(prime, other, times))
                    self.assert_same(found, with_one(prime, product(prime, g, rest)))

    def test_prime_polys_in_the_highest_parts(self):
        for prime in PRIMES:
            lots = [prime_polys(prime, 5, 3), prime_polys(prime, 5, 2) + prime_polys(prime, 6, 2)]
            for lot in lots:
                all_of_them = product(prime, *lot)
                source = random.Random(prime + 2)
                one, other = self.apart(prime, source, 7)
                top = product(prime, all_of_them, ((0, 3, 1),))
                g = summed(prime, top, ((0, 1, 1), (2, 0, 1)))
                found = self.check(prime, product(prime, g, one), product(prime, g, other))
                self.assert_same(found, with_one(prime, g))
                # The highest parts alone have these prime polys in common, or they divide one of them.
                first = summed(prime, one, product(prime, all_of_them, ((0, 11, 1),)))
                second = summed(prime, other, product(prime, all_of_them, ((0, 12, 1),)))
                for pair in ((first, second), (first, other), (one, second)):
                    rest = self.check(prime, *pair)
                    found = self.check(prime, product(prime, g, pair[0]), product(prime, g, pair[1]))
                    self.assert_same(found, with_one(prime, product(prime, g, rest)))

    def test_factors_modulo_prime_polys_alone(self):
        # Both are alike modulo some prime polys, which divide no highest part.
        for prime in PRIMES:
            lot = prime_polys(prime, 5, 2)
            source = random.Random(prime + 3)
            one, _ = self.apart(prime, source, 7)
            other = summed(prime, one, product(prime, *lot))
            self.assert_same(self.check(prime, one, other), ONE)
            # The images of two prime polys tell the whole of this one, which does not divide the other one.
            low = ((0, 0, 1), (0, 7, 1), (2, 2, 1), (3, 1, 1))
            for more in (ONE, ((0, 9, 1), (1, 1, 1))):
                self.assert_same(self.check(prime, low, summed(prime, low, product(prime, *lot, more))), ONE)
            other = summed(prime, one, product(prime, *lot, ((0, 3, 1), (1, 0, 1))))
            shared = self.check(prime, one, ((0, 3, 1), (1, 0, 1)))
            self.assert_same(self.check(prime, one, other), shared)
            g = ((0, 0, 1), (0, 2, 1), (3, 1, 1))
            self.assert_same(self.check(prime, product(prime, g, one), product(prime, g, other)),
                             with_one(prime, product(prime, g, shared)))

    def test_high_powers(self):
        self.assert_same(self.check(5, ((999, 999, 2),), ((100, 700, 1),)), ((100, 700, 1),))
        self.assert_same(self.check(5, ((0, 0, 4), (999, 0, 1)), ((0, 0, 4), (6, 0, 1))), ((0, 0, 4), (3, 0, 1)))
        self.assert_same(self.check(5, ((0, 0, 4), (0, 999, 1)), ((0, 0, 4), (0, 6, 1))), ((0, 0, 4), (0, 3, 1)))
        self.assert_same(common_factor(5, ((0, 999, 4), (999, 0, 1)), ((0, 3, 4), (3, 0, 1))), ((0, 3, 1), (3, 0, 4)))
        self.assert_same(self.check(5, ((0, 999, 1), (1, 0, 1)), ((0, 998, 1), (2, 0, 1))), ONE)
        self.assert_same(self.check(5, ((1, 0, 1), (1, 999, 1)), ((1, 998, 1), (2, 0, 1))), X)
        one, other = ((0, 50, 1), (3, 4, 1), (60, 0, 1)), ((0, 0, 1), (0, 40, 1), (4, 7, 2), (55, 0, 1))
        self.assert_same(self.check(5, one, other), ONE)
        one, other = product(5, one, other), product(5, one, ((0, 0, 1), (7, 9, 3)))
        self.assert_same(self.check(5, one, other), with_one(5, ((0, 50, 1), (3, 4, 1), (60, 0, 1))))

    def test_judged(self):
        for prime in PRIMES:
            wrong = no_polys(prime)
            bads = [(BadPrime, NO_PRIMES), (BadPoly, wrong), (BadPoly, wrong)]
            names = ("prime", "one", "other")
            self.assert_judged(common_factor, names, (prime, ((0, 1, 1), (2, 2, 1)), ((1, 0, 1), (1, 1, 1))), bads)


class QuotientTest(JudgingCase):

    def test_products(self):
        for prime in PRIMES:
            polys = some_polys(prime, 22, 6, seed=23)
            for one in polys:
                for other in polys[1:]:
                    self.assert_same(quotient(prime, product(prime, one, other), other), one)

    def test_none(self):
        for prime in PRIMES:
            polys = some_polys(prime, 14, 4, seed=24)[4:]
            for one in polys:
                for other in polys:
                    if other[-1][:2] == (0, 0):
                        continue
                    # A poly of lesser powers in one letter than other, added to a multiple, is no multiple.
                    tops = [max(term[at] for term in other) for at in (0, 1)]
                    rests = [ONE] + [((tops[0] - 1, 0, 1),)] * (tops[0] > 0) + [((0, tops[1] - 1, 1),)] * (tops[1] > 0)
                    for rest in rests:
                        both = summed(prime, product(prime, one, other), rest)
                        self.assert_same(quotient(prime, both, other), None)

    def test_one_letter_alone(self):
        # In y alone, or in x alone, these would go.
        self.assert_same(quotient(5, ((0, 1, 1),), X), None)
        self.assert_same(quotient(5, ((1, 0, 1),), Y), None)
        self.assert_same(quotient(5, ((0, 2, 1),), ((1, 1, 1),)), None)
        self.assert_same(quotient(5, ((2, 0, 1),), ((1, 1, 1),)), None)
        self.assert_same(quotient(5, ((0, 1, 1), (1, 0, 1)), ((0, 0, 1), (1, 0, 1))), None)
        self.assert_same(quotient(5, ((0, 1, 1), (1, 1, 1)), ((0, 0, 1), (1, 0, 1))), Y)
        self.assert_same(quotient(5, ((0, 2, 4), (2, 0, 1)), ((0, 1, 2), (1, 0, 2))), ((0, 1, 2), (1, 0, 3)))
        self.assert_same(quotient(2, ((0, 2, 1), (2, 0, 1)), ((0, 1, 1), (1, 1, 1))), None)

    def test_numbers_and_nothing(self):
        for prime in PRIMES:
            for poly in some_polys(prime, 12, 5, seed=25):
                self.assert_same(quotient(prime, poly, ONE), poly)
                self.assert_same(quotient(prime, poly, ((0, 0, prime - 1),)), scaled(prime, -1, poly))
                self.assert_refused(BadPoly, quotient, prime, poly, ())
                if poly:
                    self.assert_same(quotient(prime, (), poly), ())
                    self.assert_same(quotient(prime, poly, poly), ONE)
            self.assert_same(quotient(prime, ONE, X), None)
            self.assert_same(quotient(prime, ONE, Y), None)

    def test_high_powers(self):
        self.assert_same(quotient(5, ((999, 999, 2),), ((999, 0, 1),)), ((0, 999, 2),))
        self.assert_same(quotient(5, ((999, 999, 2),), ((999, 999, 4),)), ((0, 0, 3),))
        self.assert_same(quotient(5, ((998, 999, 2),), ((999, 0, 1),)), None)
        ones = tuple((k, 0, 1) for k in range(999))
        self.assert_same(quotient(5, ((0, 0, 4), (999, 0, 1)), ((0, 0, 4), (1, 0, 1))), ones)
        swapped = tuple((0, k, 1) for k in range(999))
        self.assert_same(quotient(5, ((0, 0, 4), (0, 999, 1)), ((0, 0, 4), (0, 1, 1))), swapped)
        self.assert_same(quotient(5, ((0, 0, 3), (0, 999, 1)), ((0, 0, 4), (0, 1, 1))), None)

    def test_judged(self):
        for prime in PRIMES:
            wrong = no_polys(prime)
            bads = [(BadPrime, NO_PRIMES), (BadPoly, wrong), (BadPoly, wrong + [()])]
            names = ("prime", "one", "other")
            self.assert_judged(quotient, names, (prime, ((0, 2, 1), (1, 2, 1)), ((0, 0, 1), (1, 0, 1))), bads)


if __name__ == "__main__":
    unittest.main()
