"""Points 31, 32 and 33, and the words at the head of Part 3: rowsfilled/zeros.py."""

import itertools
import random
import unittest

from rowsfilled.commons import common_factor
from rowsfilled.errors import BadModulus, BadPrime, BadRow
from rowsfilled.ones import ones
from rowsfilled.resultants import resultant
from rowsfilled.turns import turned
from rowsfilled.zeros import common_spot, is_spot, rest_size, zeros_at
from tests.judging import JudgingCase
from tests.reference import (
    degree, high_slowly, is_plain_slowly, part_slowly, product, put_slowly, rest_slowly, small_field, summed,
)
from tests.samples import (
    NO_PRIMES, ONE, PRIMES, STRANGE, WIDE, X, Y, drawn_poly, drawn_row, nested, no_moduli, no_polys, no_rows,
    no_x_polys, prime_polys, x_poly,
)

FOUR = ((0, 0, 1), (1, 0, 1), (2, 0, 1))
TURNS = [("swap",)] + [(word, m) for word in ("slide", "back") for m in (1, 2, 3)]


def is_small(row):
    return all(high_slowly(poly, letter) <= 3 for poly in row for letter in "xy")


def is_number(poly):
    return all(term[:2] == (0, 0) for term in poly)


def factor_of_all(prime, row):
    shared = ()
    for poly in row:
        shared = common_factor(prime, shared, poly)
    return shared


def spotted_slowly(prime, spot, poly):
    """Whether the turned poly is a sum of multiples of q and h: divided by h, then each part by q."""
    turn, q, h = spot
    rest = poly if turn is None else turned(prime, poly, turn)
    top = high_slowly(h, "y")
    while high_slowly(rest, "y") >= top:
        power = high_slowly(rest, "y")
        share = product(prime, part_slowly(rest, power), ((0, power - top, prime - 1),))
        rest = summed(prime, rest, product(prime, share, h))
    return rest_slowly(prime, q, rest) == ()


class SpotCase(JudgingCase):

    def check_spot(self, prime, row):
        """What is told as a spot of a row that has one."""
        spot = common_spot(prime, row)
        self.assertIs(spot.__class__, tuple)
        turn, q, h = spot
        self.assertEqual(q[-1], (degree(q), 0, 1))
        self.assertGreaterEqual(degree(q), 1)
        self.assertGreaterEqual(high_slowly(h, "y"), 1)
        self.assert_same(part_slowly(h, high_slowly(h, "y")), ONE)
        self.assertEqual([spotted_slowly(prime, spot, poly) for poly in row], [True] * len(row))
        self.assert_same(is_spot(prime, row, spot), True)
        return spot

    def check_just_one(self, prime, row):
        """Whether the row has ones; then it has no spot, otherwise one."""
        if ones(prime, row) is None:
            self.check_spot(prime, row)
            return False
        self.assert_same(common_spot(prime, row), None)
        return True


class CommonSpotTest(SpotCase):

    def test_by_hand(self):
        self.check_spot(2, (X, Y))
        self.assert_same(is_spot(2, (X, Y), (None, X, Y)), True)
        row = (FOUR, ((0, 2, 1), (1, 0, 1)))
        self.check_spot(2, row)
        self.assert_same(is_spot(2, row, (None, FOUR, ((0, 2, 1), (1, 0, 1)))), True)
        self.assert_same(is_spot(2, row, (None, FOUR, ((0, 0, 1), (0, 1, 1), (1, 0, 1)))), True)
        self.assert_same(is_spot(2, row, (None, FOUR, ((0, 0, 1), (0, 1, 1)))), False)
        self.assert_same(common_spot(2, (((0, 0, 1), (1, 1, 1)), X)), None)

    def test_numbers_and_nothing(self):
        for prime in PRIMES:
            for size in (2, 3, 4):
                self.check_spot(prime, ((),) * size)
                for c in range(1, prime):
                    for rest in itertools.product(((), X, ((3, 3, 1),)), repeat=size - 1):
                        self.assert_same(common_spot(prime, rest + (((0, 0, c),),)), None)
                        self.assert_same(common_spot(prime, (((0, 0, c),),) + rest), None)

    def test_common_factors(self):
        for prime in PRIMES:
            source = random.Random(prime)
            no_roots = prime_polys(prime, 2, 1)[0]
            all_linear = ((1, 0, prime - 1), (prime, 0, 1)) if prime < 4 else ((1, 0, 1), (2, 0, 1), (3, 0, 1))
            for shared in (X, Y, ((0, 1, 1), (1, 0, 1)), ((0, 0, 1), (1, 1, 1)), no_roots, all_linear, ((1, 1, 1),),
                           product(prime, all_linear, Y), summed(prime, product(prime, all_linear, Y), ONE)):
                for size in (2, 3, 4):
                    for most_power in (0, 1, 2):
                        row = tuple(product(prime, shared, poly) for poly in drawn_row(source, prime, size, most_power))
                        if is_small(row):
                            self.check_spot(prime, row)
                self.check_spot(prime, (shared, ()))
                self.check_spot(prime, ((), (), shared, product(prime, shared, ((0, 0, prime - 1),))))

    def test_just_one_for_drawn_rows(self):
        for prime in PRIMES:
            source = random.Random(prime + 1)
            told = [0, 0]
            for size, terms, many in ((2, 3, 80), (2, 16, 20), (3, 3, 100), (3, 16, 25), (4, 4, 80), (4, 30, 20)):
                for _ in range(many):
                    told[self.check_just_one(prime, drawn_row(source, prime, size, 3, terms))] += 1
            self.assertGreater(min(told), 50)

    def test_rows_that_need_a_mixture(self):
        # Any two entries have a common factor, all three none.
        for prime in PRIMES:
            f, g, h = ((0, 1, 1), (1, 0, 1)), ((0, 0, 1), (1, 1, 1)), ((0, 1, 1), (2, 0, 1))
            row = (product(prime, f, g), product(prime, f, h), product(prime, g, h))
            self.check_just_one(prime, row)
            self.check_just_one(prime, (row[2], (), row[0], row[1]))
            f, g, h = Y, ((0, 0, 1), (0, 1, 1)), ((0, 1, 1), (1, 0, 1))
            for last in (product(prime, g, h), summed(prime, product(prime, g, h), ONE), product(prime, h, h)):
                self.check_just_one(prime, (product(prime, f, g), product(prime, f, h), last))
        # y (y + 1) and two entries of which no sum with a number as a share has nothing in common with it.
        row = (((0, 1, 1), (0, 2, 1)), Y, ((0, 0, 1),))
        self.assertTrue(self.check_just_one(2, row))
        row = (((0, 1, 1), (0, 2, 1)), ((0, 1, 1), (1, 1, 1)), X)
        self.check_just_one(2, row)

    def test_zeros_in_greater_fields(self):
        self.check_spot(2, (FOUR, ((0, 0, 1), (0, 1, 1), (0, 2, 1))))
        self.check_spot(2, (x_poly([1, 1, 0, 1]), ((0, 0, 1), (0, 2, 1), (0, 3, 1), (1, 0, 1))))
        self.check_spot(3, (((0, 0, 1), (2, 0, 1)), ((0, 0, 1), (0, 2, 1))))
        for prime in PRIMES:
            cubic = prime_polys(prime, 3, 1)[0]
            swapped = tuple(sorted((0, i, c) for i, _, c in cubic))
            self.check_spot(prime, (cubic, swapped, ()))
            self.check_spot(prime, (cubic, summed(prime, swapped, cubic)))
            self.assertEqual(degree(self.check_spot(prime, (cubic, Y))[1]), 3)

    def test_in_one_letter(self):
        for prime in PRIMES:
            less_one = ((0, 0, prime - 1), (1, 0, 1))
            self.assertFalse(self.check_just_one(prime, (product(prime, X, less_one), less_one)))
            self.assertTrue(self.check_just_one(prime, (X, less_one)))
            swapped = ((0, 0, prime - 1), (0, 1, 1))
            self.assertFalse(self.check_just_one(prime, (product(prime, Y, swapped), swapped)))
            self.assertTrue(self.check_just_one(prime, (Y, swapped)))
            self.assertTrue(self.check_just_one(prime, (Y, less_one, X)))

    def test_judged(self):
        for prime in PRIMES:
            bads = [(BadPrime, NO_PRIMES), (BadRow, no_rows(prime))]
            self.assert_judged(common_spot, ("prime", "row"), (prime, (X, Y, ((1, 1, 1),))), bads)
            self.assert_judged(rest_size, ("prime", "row"), (prime, (X, Y, ((1, 1, 1),))), bads)

    def test_limit(self):
        for high in (((4, 0, 1),), ((0, 4, 1),), ((3, 999, 1),), ((0, 0, 1), (999, 0, 1))):
            for row in ((ONE, high), (high, ONE), (X, Y, high), (high, (), (), ())):
                for function in (common_spot, rest_size):
                    self.assert_too_many(3, function, 3, row)
                self.assert_too_many(3, is_spot, 3, row, (None, X, Y))
                self.assert_too_many(3, is_spot, 3, row, nested("list", 80))
                self.assert_too_many(3, zeros_at, 3, X, row)
            for function in (common_spot, rest_size):
                self.assert_refused(BadRow, function, 3, [high, high])
                self.assert_refused(BadRow, function, 3, (high, None))
                self.assert_refused(BadPrime, function, 9, (high, high))
            self.assert_refused(BadRow, is_spot, 3, (high, ((0, 0, 3),)), (None, X, Y))


class IsSpotTest(SpotCase):

    def test_turns(self):
        for prime in PRIMES:
            for turn in TURNS + [("slide", 9), ("back", 9)]:
                # x less y to the m, turned, is x, or the other way about.
                row = tuple(put_slowly(prime, poly, X, Y) for poly in (X, Y))
                self.assert_same(is_spot(prime, row, (turn, X, Y)), True)
                less_one = ((0, 0, prime - 1), (0, 1, 1))
                expected = turn == ("swap",)
                self.assert_same(is_spot(prime, (((0, 0, prime - 1), (1, 0, 1)), Y), (turn, X, less_one)), expected)
        row = (((0, 0, 1), (1, 0, 2)), Y)
        self.assert_same(is_spot(3, row, (("swap",), X, ((0, 0, 2), (0, 1, 1)))), True)
        self.assert_same(is_spot(3, row, (None, X, ((0, 0, 2), (0, 1, 1)))), False)
        self.assert_same(is_spot(3, (((0, 2, 2), (1, 0, 1)), Y), (("slide", 2), X, ((0, 3, 1),))), False)
        self.assert_same(is_spot(3, (((0, 2, 2), (1, 0, 1)), ((0, 3, 1),)), (("slide", 2), X, ((0, 3, 1),))), True)
        self.assert_same(is_spot(3, (((0, 2, 2), (1, 0, 1)), ((0, 3, 1),)), (("back", 2), X, ((0, 3, 1),))), False)

    def test_against_the_slow_way(self):
        for prime in PRIMES:
            source = random.Random(prime + 2)
            found = 0
            for _ in range(150):
                q = source.choice([X, ((0, 0, 1), (1, 0, 1)), ((2, 0, 1),), ((1, 0, 1), (3, 0, 1))])
                h = summed(prime, ((0, source.randint(1, 3), 1),), source.choice([(), X, ONE, ((1, 0, 1), (2, 0, 1))]))
                turn = source.choice([None, None] + TURNS)
                row = drawn_row(source, prime, 2, 3, 2)
                if source.random() < 0.5:
                    one, other = drawn_row(source, prime, 2, 1, 2)
                    row = (summed(prime, product(prime, one, q), product(prime, other, h)), h)
                    turn = None
                if is_small(row):
                    expected = all(spotted_slowly(prime, (turn, q, h), poly) for poly in row)
                    self.assert_same(is_spot(prime, row, (turn, q, h)), expected)
                    found += expected
            self.assertGreater(found, 20)

    def test_not_all_parts(self):
        # q need not be a prime poly, nor h one modulo q.
        self.assert_same(is_spot(2, (((2, 0, 1),), ((0, 2, 1),)), (None, ((2, 0, 1),), ((0, 2, 1),))), True)
        self.assert_same(is_spot(2, (X, ((0, 2, 1),)), (None, ((2, 0, 1),), ((0, 2, 1),))), False)
        self.assert_same(is_spot(2, (((2, 0, 1),), Y), (None, ((2, 0, 1),), ((0, 2, 1),))), False)
        self.assert_same(is_spot(2, (((2, 3, 1),), ((3, 0, 1),)), (None, ((2, 0, 1),), ((0, 999, 1),))), True)
        self.assert_same(is_spot(2, ((), ()), (None, ((999, 0, 1),), ((0, 999, 1), (1, 998, 1)))), True)

    def test_high_powers_on_the_way(self):
        # y to the 3, with y less x to the 999 as h, is x to the 2997.
        h = ((0, 1, 1), (999, 0, 2))
        self.assert_same(is_spot(3, (((0, 3, 1),), ((1, 3, 1),)), (None, ((999, 0, 1),), h)), True)
        self.assert_same(is_spot(3, (((0, 3, 1),), ((0, 0, 1), (0, 3, 1))), (None, ((999, 0, 1),), h)), False)
        less_one = ((0, 0, 2), (1, 0, 1))
        self.assert_same(is_spot(3, (((0, 0, 2), (0, 3, 1)), ((0, 0, 1), (0, 3, 2))), (None, less_one, h)), True)
        self.assert_same(is_spot(3, (((3, 3, 1),), ((3, 0, 1),)), (("slide", 9), X, ((0, 27, 1),))), True)
        self.assert_same(is_spot(3, (((3, 3, 1),), ((3, 0, 1),)), (("slide", 9), X, ((0, 28, 1),))), False)

    def test_values_of_every_kind(self):
        good = (None, X, Y)
        wrong = list(STRANGE) + [
            (), [], {}, list(good), good[:2], good + (None,), (X, Y), {0: None, 1: X, 2: Y}, (good,), (None, Y, X),
            (None, [(1, 0, 1)], Y), (None, X, [(0, 1, 1)]), (None, ((1, 0, True),), Y), (None, ((True, 0, 1),), Y),
            (None, ((1, False, 1),), Y), (None, X, ((0, True, 1),)), (None, X, ((False, 1, 1),)),
            (None, X, ((0, 1, True),)), (False, X, Y), (True, X, Y), (0, X, Y), ((), X, Y), ("swap", X, Y),
            (["swap"], X, Y), (("slide", 0), X, Y), (("slide", 10), X, Y), (("slide", True), X, Y), (("turn", 1), X, Y),
            (("slide",), X, Y), (("swap", 1), X, Y), (nested("tuple", 79), X, Y), (nested("list", 79), X, Y),
            (None, ((0, 0, 1),), Y), (None, (), Y), (None, ((1, 0, 2),), Y), (None, ((0, 1, 1), (1, 0, 1)), Y),
            (None, X, ()), (None, X, ONE), (None, X, X), (None, X, ((0, 1, 2),)), (None, X, ((1, 1, 1),)),
            (None, X, ((0, 1, 1), (1, 1, 1))), (None, X, ((0, 0, 1), (0, 1, 2))), (None, X, ((0, 2, 1), (1, 2, 2))),
        ]
        wrong += [(None, value, Y) for value in no_x_polys(3)]
        wrong += [(None, X, value) for value in no_polys(3)]
        wrong += [(value, X, Y) for value in STRANGE if value is not None]
        for value in wrong:
            self.assert_same(is_spot(3, ((), ()), value), False)
            self.assert_same(is_spot(3, (X, Y), value), False)
        self.assert_same(is_spot(3, ((), ()), good), True)

    def test_judged(self):
        names = ("prime", "row", "thing")
        for prime in PRIMES:
            bads = [(BadPrime, NO_PRIMES), (BadRow, no_rows(prime)), None]
            self.assert_judged(is_spot, names, (prime, (X, Y, ()), (None, X, Y)), bads)
            self.assert_judged(is_spot, names, (prime, (X, Y, ()), None), [(BadPrime, NO_PRIMES), None, None])


class ZerosAtTest(SpotCase):

    def test_by_hand(self):
        row = (((1, 0, 1), (1, 1, 1)), ((0, 1, 1), (1, 0, 1)))
        found = zeros_at(2, ((0, 0, 1), (1, 0, 1)), row)
        self.assert_same(found, [((), ()), (((0, 0, 1),), ((0, 0, 1),))])
        self.assertIs(found.__class__, list)
        self.assert_same(zeros_at(2, FOUR, (FOUR, ((0, 2, 1), (1, 0, 1)))), [
            (((0, 0, 1), (1, 0, 1)), X), (X, ((0, 0, 1), (1, 0, 1)))])

    def fields(self):
        for prime, degrees in ((2, (1, 2, 3, 4)), (3, (1, 2, 3)), (5, (1, 2)), (7, (1,))):
            for several in degrees:
                yield prime, several

    def zeros_slowly(self, prime, modulus, row):
        found = []
        members = small_field(prime, degree(modulus))
        for first, second in itertools.product(members, members):
            if all(rest_slowly(prime, modulus, put_slowly(prime, poly, first, second)) == () for poly in row):
                found.append((first, second))
        return sorted(found)

    def test_against_trying_all(self):
        for prime, several in ((2, 1), (2, 2), (2, 3), (3, 1), (3, 2), (5, 1), (7, 1)):
            source = random.Random(prime + several)
            for modulus in prime_polys(prime, several):
                for size in (2, 2, 3, 4):
                    row = drawn_row(source, prime, size, 3, 3)
                    self.assert_same(zeros_at(prime, modulus, row), self.zeros_slowly(prime, modulus, row))
                row = (drawn_poly(source, prime, 3, 4), ())
                self.assert_same(zeros_at(prime, modulus, row), self.zeros_slowly(prime, modulus, row))

    def test_all_pairs(self):
        for prime, several in self.fields():
            modulus = prime_polys(prime, several, 1)[0]
            members = sorted(small_field(prime, several))
            self.assert_same(zeros_at(prime, modulus, ((), ())), list(itertools.product(members, members)))
            self.assert_same(zeros_at(prime, modulus, (X, (), ())), [((), member) for member in members])
            self.assert_same(zeros_at(prime, modulus, (Y, ())), [(member, ()) for member in members])
            self.assert_same(zeros_at(prime, modulus, (Y, ONE)), [])

    def test_numbers_of_x_are_not_those_of_the_field(self):
        # x in the row is a letter: it may become any member.
        self.assert_same(zeros_at(2, FOUR, (((0, 1, 1), (1, 0, 1)), ((1, 1, 1),))), [((), ())])

    def test_as_many_for_each_modulus_and_turn(self):
        for prime, several in self.fields():
            source = random.Random(prime * 10 + several)
            moduli = prime_polys(prime, several, 3)
            for _ in range(6):
                row = drawn_row(source, prime, 2, 3, 3)
                many = len(zeros_at(prime, moduli[0], row))
                for modulus in moduli[1:]:
                    self.assertEqual(len(zeros_at(prime, modulus, row)), many)
                for turn in TURNS[:5]:
                    behind = tuple(turned(prime, poly, turn) for poly in row)
                    if is_small(behind):
                        self.assertEqual(len(zeros_at(prime, moduli[0], behind)), many)
                if many:
                    self.assertFalse(self.check_just_one(prime, row))
                size = rest_size(prime, row)
                if size is not None:
                    self.assertLessEqual(many, size)

    def test_limit(self):
        for prime, several in ((2, 4), (3, 3), (5, 2), (7, 1)):
            modulus = prime_polys(prime, several, 1)[0]
            wider = prime_polys(prime, several + 1, 1)[0]
            self.assertEqual(len(zeros_at(prime, modulus, (X, ()))), prime ** several)
            self.assert_too_many(30, zeros_at, prime, wider, (X, ()))
            self.assert_too_many(30, zeros_at, prime, prime_polys(prime, 12, 1)[0], (X, ONE))
            self.assert_too_many(3, zeros_at, prime, wider, (X, ((4, 0, 1),)))
            self.assert_refused(BadRow, zeros_at, prime, wider, (X, ((4, 0, 1),), None))
            self.assert_refused(BadModulus, zeros_at, prime, product(prime, wider, X), [((4, 0, 1),)])
            self.assert_refused(BadPrime, zeros_at, -prime, None, [((4, 0, 1),)])

    def test_a_new_list_each_time(self):
        zeros_at(2, X, (X, Y)).append(1)
        self.assert_same(zeros_at(2, X, (X, Y)), [((), ())])
        zeros_at(2, X, (X, ONE)).append(1)
        self.assert_same(zeros_at(2, X, (X, ONE)), [])

    def test_judged(self):
        names = ("prime", "modulus", "row")
        for prime in PRIMES:
            bads = [(BadPrime, NO_PRIMES), (BadModulus, no_moduli(prime)), (BadRow, no_rows(prime))]
            self.assert_judged(zeros_at, names, (prime, X, (X, Y, ((1, 1, 1),))), bads)
        self.assert_refused(BadPrime, zeros_at, WIDE, X, (X, Y))


class RestSizeTest(SpotCase):

    def test_by_hand(self):
        for prime in PRIMES:
            self.assert_same(rest_size(prime, (X, Y)), 1)
            self.assert_same(rest_size(prime, (((2, 0, 1),), Y)), 2)
            self.assert_same(rest_size(prime, (X, ((1, 1, 1),))), None)
            self.assert_same(rest_size(prime, ((), ())), None)
            self.assert_same(rest_size(prime, (((3, 0, 1),), ((0, 3, 1),))), 9)
            self.assert_same(rest_size(prime, (((3, 0, 1),), ((0, 3, 1),), ((1, 1, 1),))), 5)
            self.assert_same(rest_size(prime, (((3, 0, 1),), ((0, 3, 1),), ((1, 2, 1),), ((2, 1, 1),))), 6)
            self.assert_same(rest_size(prime, (X, ONE, ())), 0)
            self.assert_same(rest_size(prime, (ONE, ())), 0)

    def test_drawn(self):
        for prime in PRIMES:
            source = random.Random(prime + 3)
            kinds = {}
            for _ in range(150):
                row = drawn_row(source, prime, source.choice((2, 2, 3, 4)), 3, source.choice((2, 4)))
                size = rest_size(prime, row)
                kinds[size] = kinds.get(size, 0) + 1
                self.assertEqual(size == 0, self.check_just_one(prime, row))
                shared = factor_of_all(prime, row)
                self.assertEqual(size is None, shared == () or not is_number(shared))
                if size is not None:
                    self.assertIs(size.__class__, int)
                self.check_kept(prime, row, size, source)
            self.assertGreater(len(kinds), 6)

    def check_kept(self, prime, row, size, source):
        self.assert_same(rest_size(prime, tuple(reversed(row))), size)
        one, other = source.sample(range(len(row)), 2)
        more = list(row)
        more[other] = summed(prime, row[other], product(prime, drawn_poly(source, prime, 1, 2), row[one]))
        if is_small(more):
            self.assert_same(rest_size(prime, tuple(more)), size)
        turn = source.choice(TURNS)
        behind = tuple(turned(prime, poly, turn) for poly in row)
        if is_small(behind):
            self.assert_same(rest_size(prime, behind), size)
        if len(row) < 4:
            wider = rest_size(prime, row + (drawn_poly(source, prime, 3, 3),))
            if size is not None:
                self.assertLessEqual(wider, size)

    def test_degree_of_the_resultant(self):
        for prime in PRIMES:
            source = random.Random(prime + 4)
            for _ in range(60):
                f = summed(prime, ((0, source.randint(0, 3), prime - 1),), drawn_poly(source, prime, 3, 2))
                g = drawn_poly(source, prime, 3, 4)
                if is_plain_slowly(f) and g and not is_number(f):
                    r = resultant(prime, f, g)[0]
                    self.assert_same(rest_size(prime, (f, g)), degree(r) if r else None)

    def test_products(self):
        for prime in PRIMES:
            source = random.Random(prime + 5)
            for _ in range(60):
                f, g, h = [drawn_poly(source, prime, most, 3) for most in (3, 2, 1)]
                sizes = [rest_size(prime, (f, g)), rest_size(prime, (f, h))]
                if None not in sizes:
                    self.assert_same(rest_size(prime, (f, product(prime, g, h))), sum(sizes))

    def test_monomials(self):
        for prime in (2, 7):
            powers = list(itertools.product(range(4), repeat=2))
            source = random.Random(6)
            for _ in range(80):
                lot = source.sample(powers, source.choice((2, 3, 4)))
                row = tuple(((i, j, source.randint(1, prime - 1)),) for i, j in lot)
                free = [(i, j) for i in range(9) for j in range(9) if not any(i >= k and j >= m for k, m in lot)]
                endless = any(8 in pair for pair in free)
                self.assert_same(rest_size(prime, row), None if endless else len(free))


if __name__ == "__main__":
    unittest.main()
