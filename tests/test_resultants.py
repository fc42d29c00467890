"""Point 20: rowsfilled/resultants.py."""

import random
import unittest

from rowsfilled.errors import BadPoly, BadPrime, NoLetter
from rowsfilled.resultants import resultant
from tests.judging import JudgingCase
from tests.reference import (
    degree, high_slowly, part_slowly, product, put_slowly, resultant_slowly, scaled, summed, sylvester,
)
from tests.samples import NO_PRIMES, ONE, PRIMES, STRANGE, WIDE, X, Y, drawn_poly, no_polys


def drawn(prime, many, most_power, most_terms, seed):
    """So many polys that are not ()."""
    source = random.Random(f"{prime} {seed}")
    found = []
    while len(found) < many:
        poly = drawn_poly(source, prime, most_power, most_terms)
        if poly:
            found.append(poly)
    return found


def has_letter(*polys):
    return any(high_slowly(poly, "y") > 0 for poly in polys)


class ResultantTest(JudgingCase):

    def check(self, prime, one, other):
        """What holds for all tellings; the triple."""
        told = resultant(prime, one, other)
        self.assertIs(told.__class__, tuple)
        r, u, v = told
        self.assert_same(summed(prime, product(prime, u, one), product(prime, v, other)), r)
        self.assertLess(high_slowly(r, "y"), 1)
        self.assertLess(high_slowly(u, "y"), max(high_slowly(other, "y"), 0)) if u else self.assertEqual(u, ())
        self.assertLess(high_slowly(v, "y"), max(high_slowly(one, "y"), 0)) if v else self.assertEqual(v, ())
        return told

    def test_by_hand(self):
        one, other = ((0, 2, 1), (1, 0, 4)), ((0, 0, 4), (0, 1, 1))
        table = [[ONE, (), ((1, 0, 4),)], [ONE, ((0, 0, 4),), ()], [(), ONE, ((0, 0, 4),)]]
        self.assertEqual(sylvester(one, other), (table, 1))
        expected = (((0, 0, 1), (1, 0, 4)), ONE, ((0, 0, 4), (0, 1, 4)))
        self.assert_same(resultant(5, one, other), expected)
        self.assert_same(resultant_slowly(5, one, other), expected)

    def test_against_the_table(self):
        for prime in PRIMES:
            polys = drawn(prime, 18, 3, 5, 1)
            for one in polys:
                for other in polys:
                    if has_letter(one, other):
                        self.assert_same(self.check(prime, one, other), resultant_slowly(prime, one, other))

    def test_against_the_table_with_common_factors(self):
        for prime in PRIMES:
            for shared in drawn(prime, 5, 2, 3, 2) + [Y, ((0, 2, 1),), X]:
                for one in drawn(prime, 5, 2, 3, 3) + [Y]:
                    for other in drawn(prime, 5, 2, 3, 4) + [Y]:
                        first, second = product(prime, shared, one), product(prime, shared, other)
                        if has_letter(first, second):
                            told = self.check(prime, first, second)
                            self.assert_same(told, resultant_slowly(prime, first, second))

    def test_gaps_in_the_powers(self):
        for prime in PRIMES:
            for one in [((0, 5, 1), (1, 0, 1)), ((0, 4, 1), (2, 1, 1)), ((1, 6, 1), (2, 0, 1))]:
                for other in [((0, 3, 1), (1, 0, 1)), ((1, 2, 1), (3, 0, 1)), ((0, 5, 1), (1, 2, 1)), ((0, 6, 1),)]:
                    self.assert_same(self.check(prime, one, other), resultant_slowly(prime, one, other))
                    self.assert_same(self.check(prime, other, one), resultant_slowly(prime, other, one))

    def test_two_powers_at_once_are_gone_on_the_way(self):
        # Built from the end: each one is a multiple of the next one and what is left behind it.
        for prime in PRIMES:
            for high in (1, 2, 3):
                last, low = ((0, 0, 1), (2, 0, 1)), ((0, 0, 1), (1, high, prime - 1), (2, 0, 1))
                for first, second in (((0, 2, 1), (0, 3, 1)), ((0, 1, 1), (0, 2, 1)), ((0, 2, 1), (1, 1, 1))):
                    third = summed(prime, product(prime, (first,), low), last)
                    other = summed(prime, product(prime, (second,), third), low)
                    one = summed(prime, product(prime, ((1, 1, 1),), other), third)
                    for pair in ((one, other), (other, one), (other, third), (third, other)):
                        told = self.check(prime, *pair)
                        if sum(high_slowly(poly, "y") for poly in pair) < 10:
                            self.assert_same(told, resultant_slowly(prime, *pair))

    def test_one_without_y(self):
        f = ((0, 0, 1), (1, 0, 1))
        square = ((0, 0, 1), (1, 0, 2), (2, 0, 1))
        other = ((0, 3, 1), (2, 0, 1), (4, 1, 2))
        cube = product(5, square, f)
        self.assert_same(resultant(5, f, other), (cube, square, ()))
        self.assert_same(resultant(5, other, f), (cube, (), square))
        self.assert_same(resultant(5, f, Y), (f, ONE, ()))
        self.assert_same(resultant(5, Y, f), (f, (), ONE))
        self.assert_same(resultant(5, ((0, 0, 2),), other), (((0, 0, 3),), ((0, 0, 4),), ()))
        self.assert_same(resultant(2, ONE, ((0, 2, 1),)), (ONE, ONE, ()))

    def test_no_letter(self):
        for prime in PRIMES:
            for one in (ONE, X, ((0, 0, prime - 1), (999, 0, 1))):
                for other in (ONE, X, ((1000 - 1, 0, 1),)):
                    self.assert_refused(NoLetter, resultant, prime, one, other)
            self.assert_refused(BadPoly, resultant, prime, (), X)
            self.assert_refused(BadPoly, resultant, prime, X, ())
            self.assert_refused(BadPoly, resultant, prime, (), ())

    def test_exchanged(self):
        for prime in PRIMES:
            polys = drawn(prime, 18, 4, 5, 5)
            for one in polys:
                for other in polys:
                    if has_letter(one, other):
                        sign = (-1) ** (high_slowly(one, "y") * high_slowly(other, "y"))
                        first, second = resultant(prime, one, other), resultant(prime, other, one)
                        self.assert_same(first[0], scaled(prime, sign, second[0]))

    def test_products(self):
        for prime in PRIMES:
            for one in drawn(prime, 8, 3, 4, 6):
                for g in drawn(prime, 6, 2, 3, 7) + [((0, 0, 1), (1, 0, 1)), X, ((0, 0, prime - 1),)]:
                    for h in drawn(prime, 6, 2, 3, 8):
                        if not has_letter(one, h):
                            continue
                        m = high_slowly(one, "y")
                        for_g = resultant(prime, one, g)[0] if has_letter(one, g) else product(prime, *[g] * m)
                        if not has_letter(g):
                            self.assert_same(for_g, product(prime, *[g] * m))
                        for_h = resultant(prime, one, h)[0]
                        for_both = resultant(prime, one, product(prime, g, h))[0]
                        self.assert_same(for_both, product(prime, for_g, for_h))

    def test_multiples_of_a_plain_one_added(self):
        for prime in PRIMES:
            c = prime - 1
            for one in [((0, 2, c), (1, 1, 1), (3, 0, 1)), ((0, 1, c), (2, 0, 1)), ((0, 3, c), (1, 0, 1))]:
                for other in drawn(prime, 8, 3, 4, 9):
                    for h in drawn(prime, 8, 3, 4, 10):
                        more = summed(prime, other, product(prime, h, one))
                        if more:
                            grown = high_slowly(more, "y") - high_slowly(other, "y")
                            expected, found = resultant(prime, one, other)[0], resultant(prime, one, more)[0]
                            # c is -1: c times as often as the high shrinks is the same as its inverse so often.
                            self.assert_same(found, scaled(prime, (-1) ** abs(grown), expected))

    def test_roots_of_a_plain_product(self):
        # r of (y - a) (y - b) is other with a for y, times other with b for y.
        for prime in PRIMES:
            for a in (X, ((0, 0, 1), (2, 0, 1)), ()):
                for b in (((3, 0, 1),), ONE):
                    less_a, less_b = [summed(prime, Y, scaled(prime, -1, place)) for place in (a, b)]
                    for other in drawn(prime, 10, 3, 4, 11):
                        r = resultant(prime, product(prime, less_a, less_b), other)[0]
                        placed = [put_slowly(prime, other, X, place) for place in (a, b)]
                        self.assert_same(r, product(prime, *placed))

    def test_nothing_exactly_with_a_common_factor_with_y(self):
        for prime in PRIMES:
            for shared in (Y, ((0, 1, 1), (1, 0, 1)), ((0, 0, 1), (1, 1, 1)), ((0, 2, 1), (1, 0, 1))):
                for one in drawn(prime, 6, 2, 4, 12):
                    for other in drawn(prime, 6, 2, 4, 13):
                        told = self.check(prime, product(prime, shared, one), product(prime, shared, other))
                        self.assert_same(told[0], ())
            # A common factor of x alone leaves r as it should be.
            first, second = ((1, 0, 1), (1, 1, 1)), ((1, 1, 1),)
            self.assertNotEqual(self.check(prime, first, second)[0], ())
            self.assert_same(resultant(prime, Y, Y), ((), ((0, 0, prime - 1),), ONE))

    def test_greater_ones(self):
        for prime in PRIMES:
            polys = drawn(prime, 4, 7, 30, 14)
            for one in polys:
                for other in polys[:2]:
                    self.check(prime, one, other)

    def test_powers_on_the_way(self):
        one = ((0, 3, 1), (333, 1, 1), (400, 0, 4))
        self.assert_same(self.check(5, one, summed(5, one, ONE))[0], ONE)
        r = self.check(5, ((0, 1, 1), (999, 0, 1)), ((0, 1, 1), (998, 0, 1)))[0]
        self.assert_same(r, ((998, 0, 1), (999, 0, 4)))
        # y squared less x to the 500 at y = x to the 499: x to the 998 less x to the 500.
        told = self.check(3, ((0, 2, 1), (500, 0, 2)), ((0, 1, 1), (499, 0, 2)))
        self.assert_same(told[0], ((500, 0, 2), (998, 0, 1)))

    def test_powers_above_the_limit(self):
        self.assert_same(resultant(5, ((333, 0, 1),), ((0, 3, 1),))[0], ((999, 0, 1),))
        self.assert_too_many(999, resultant, 5, ((334, 0, 1),), ((0, 3, 1),))
        self.assert_too_many(999, resultant, 5, ((500, 0, 1),), ((0, 2, 1),))
        self.assert_too_many(999, resultant, 5, ((0, 2, 1),), ((500, 0, 1),))
        self.assert_too_many(999, resultant, 3, ((0, 2, 1), (1, 0, 2)), ((0, 1, 1), (500, 0, 2)))
        self.assert_too_many(999, resultant, 3, ((0, 0, 1), (2, 0, 1)), ((0, 0, 1), (999, 998, 1), (999, 999, 1)))
        self.assert_same(len(resultant(2, ((0, 0, 1), (1, 0, 1)), ((0, 255, 1),))[0]), 256)

    def test_limit_with_high_powers_in_front(self):
        # r is, but for a sign, x to the 4 k times the cube of what is left of one behind y times other.
        for k, left, is_told in ((249, ((1, 0, 1),), True), (249, ((2, 0, 1),), False), (250, ONE, False)):
            other = ((0, 0, 1), (k, 3, 1))
            one = summed(5, product(5, Y, other), left)
            if is_told:
                self.assert_same(degree(self.check(5, one, other)[0]), 999)
                self.assert_same(degree(self.check(5, other, one)[0]), 999)
            else:
                self.assert_too_many(999, resultant, 5, one, other)
                self.assert_too_many(999, resultant, 5, other, one)

    def test_limit_of_the_multiples_alone(self):
        # 1 less x to the 5 k times y to the 5 is a multiple of 1 less x to the k times y.
        self.assert_same(resultant_slowly(3, ((0, 0, 1), (3, 1, 2)), ((0, 5, 1),))[0], ((0, 0, 2),))
        for k, is_told in ((3, True), (199, True), (200, False), (999, False)):
            one, other = ((0, 0, 1), (k, 1, 2)), ((0, 5, 1),)
            if is_told:
                self.assert_same(self.check(3, one, other)[0], ((0, 0, 2),))
                self.assert_same(degree(resultant(3, one, other)[2]), 5 * k)
            else:
                self.assert_too_many(999, resultant, 3, one, other)
                self.assert_too_many(999, resultant, 3, other, one)

    def test_limit_where_the_resultant_is_nothing(self):
        one = ((0, 1, 1), (0, 2, 1))
        told = ((), ((998, 0, 1),), ((499, 0, 4), (499, 1, 4)))
        self.assert_same(self.check(5, one, ((499, 1, 1),)), told)
        self.assert_same(resultant_slowly(5, one, ((499, 1, 1),)), told)
        self.assert_too_many(999, resultant, 5, one, ((500, 1, 1),))

    def test_judged(self):
        names = ("prime", "one", "other")
        for prime in PRIMES:
            wrong = no_polys(prime) + [()]
            bads = [(BadPrime, NO_PRIMES), (BadPoly, wrong), (BadPoly, wrong)]
            self.assert_judged(resultant, names, (prime, ((0, 2, 1), (1, 0, 1)), ((0, 0, 1), (1, 1, 1))), bads)
        for value in STRANGE:
            self.assert_refused(BadPoly, resultant, 3, X, value)
            self.assert_refused(BadPoly, resultant, 3, value, X)
        self.assert_refused(BadPrime, resultant, WIDE, X, X)
        self.assert_refused(BadPrime, resultant, True, (), X)

    def test_parts_of_the_table(self):
        self.assert_same(part_slowly(((1, 0, 2), (1, 1, 3)), 1), ((1, 0, 3),))


if __name__ == "__main__":
    unittest.main()
