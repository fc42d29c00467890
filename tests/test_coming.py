"""Point 43: rowsfilled/coming.py."""

import itertools
import random
import unittest

from rowsfilled.coming import coming, is_coming, mixing_for
from rowsfilled.commons import common_factor
from rowsfilled.errors import BadModulus, BadPrime, BadRow, FillError, NotPlain, TooMany
from rowsfilled.fields import common_at
from rowsfilled.moving import is_telling, mixed_entry
from rowsfilled.ones import ones
from rowsfilled.resultants import resultant
from rowsfilled.zeros import common_spot
from tests.judging import JudgingCase
from tests.reference import high_slowly, is_plain_slowly, product, summed, summed_products
from tests.samples import (
    NO_PRIMES, ONE, PRIMES, STRANGE, X, Y, drawn_poly, drawn_row, nested, no_moduli, no_polys, no_rows, no_x_polys,
    prime_polys,
)

ROW = (Y, X, ((0, 0, 1), (1, 0, 1)))
COMING = ([((ONE,), (ONE, (), ONE))], (ONE,))


def plain_row(source, prime, size, most_terms=4):
    """A row whose first entry is plain, with powers up to 3."""
    power = source.choice((0, 1, 1, 2, 2, 3, 3))
    low = drawn_poly(source, prime, 3, most_terms)
    low = tuple(term for term in low if term[1] < power)
    first = summed(prime, ((0, power, source.randint(1, prime - 1)),), low)
    return (first,) + drawn_row(source, prime, size - 1, 3, most_terms)


def moduli(prime):
    found = [()]
    for several, many in ((1, 3), (2, 3), (3, 1), (6, 1), (12, 1)):
        found += prime_polys(prime, several, many)
    return found


class MixingForTest(JudgingCase):

    def shared_high(self, prime, modulus, one, other):
        """The high for y of what two polys have in common, modulo the modulus."""
        if modulus == ():
            return high_slowly(common_factor(prime, one, other), "y")
        return high_slowly(common_at(prime, modulus, one, other)[0], "y")

    def check(self, prime, row, modulus):
        mixing = mixing_for(prime, row, modulus)
        if mixing is None:
            shared = row[0]
            for poly in row[1:]:
                if modulus == ():
                    shared = common_factor(prime, shared, poly)
                else:
                    shared = common_at(prime, modulus, shared, poly)[0]
            self.assertGreater(high_slowly(shared, "y"), 0, (prime, row, modulus))
            return False
        self.assertIs(mixing.__class__, tuple)
        self.assertEqual(len(mixing), len(row) - 2)
        mixed = mixed_entry(prime, row, mixing)
        self.assertLess(self.shared_high(prime, modulus, row[0], mixed), 1, (prime, row, modulus))
        return True

    def test_by_hand(self):
        self.assertTrue(self.check(2, ROW, ()))
        self.assertTrue(self.check(2, ROW, X))
        self.assertTrue(self.check(2, ROW, ((0, 0, 1), (1, 0, 1))))
        self.assertFalse(self.check(2, (Y, X, ((1, 1, 1),)), X))
        self.assertTrue(self.check(2, (Y, X, ((1, 1, 1),)), ()))
        self.assertFalse(self.check(2, (Y, Y, ((1, 1, 1),)), ()))

    def test_drawn(self):
        for prime in PRIMES:
            source = random.Random(prime)
            told = [0, 0]
            for size in (2, 3, 4):
                for _ in range(12):
                    row = plain_row(source, prime, size, source.choice((2, 4, 12)))
                    for modulus in moduli(prime):
                        told[self.check(prime, row, modulus)] += 1
            self.assertGreater(min(told), 10)

    def test_where_no_number_will_do(self):
        # y (y - 1) .. : each number times one more entry has some factor in common with the first entry.
        for prime in PRIMES:
            factors = [((0, 1, 1),)] + [((0, 0, c), (0, 1, 1)) for c in range(1, prime)]
            first = product(prime, *factors)
            for modulus in moduli(prime):
                # y itself added k times: y plus k times -1 is one of the factors.
                self.assertTrue(self.check(prime, (first, Y, ((0, 0, prime - 1),)), modulus))
                self.assertTrue(self.check(prime, (first, Y, (), ((0, 0, prime - 1),)), modulus))
                self.assertTrue(self.check(prime, (first, (), Y, ((0, 0, 1), (0, 1, 1))), modulus))
                self.assertFalse(self.check(prime, (first, Y, ((0, 2, 1),), product(prime, Y, first)), modulus))
        # y (y + 1) (y ** 2 + y + 1), and for three more entries each has something in common with it.
        first = product(2, Y, ((0, 0, 1), (0, 1, 1)), ((0, 0, 1), (0, 1, 1), (0, 2, 1)))
        lots = [Y, ((0, 0, 1), (0, 1, 1)), ((0, 0, 1), (0, 1, 1), (0, 2, 1)), ((0, 1, 1), (0, 2, 1))]
        lots.append(((0, 0, 1), (0, 3, 1)))
        for several in itertools.product(lots, repeat=3):
            for modulus in ((), X, ((0, 0, 1), (1, 0, 1), (2, 0, 1))):
                self.check(2, (first,) + several, modulus)
                self.check(2, (first,) + several[:2], modulus)

    def test_where_no_low_share_will_do(self):
        # Modulo x, y times 0, 1, y and y + 1 is what the second entry leaves by the four factors of the first one.
        places = [Y, ((0, 0, 1), (0, 1, 1)), ((0, 0, 1), (0, 1, 1), (0, 2, 1)), ((0, 0, 1), (0, 1, 1), (0, 3, 1))]
        shares = [(), ONE, Y, ((0, 0, 1), (0, 1, 1))]
        first = product(2, *places)
        seconds = []
        for number in range(2 ** 7):
            second = tuple((0, k, 1) for k in range(7) if number >> k & 1)
            sums = [summed(2, second, share) for share in shares]
            if all(common_at(2, X, one, place)[0] == place for one, place in zip(sums, places)):
                seconds.append(second)
        self.assertEqual(len(seconds), 1)
        for modulus in ((), X, ((0, 0, 1), (1, 0, 1)), ((0, 0, 1), (1, 0, 1), (2, 0, 1))):
            self.assertTrue(self.check(2, (first, seconds[0], ONE), modulus))
            self.assertTrue(self.check(2, (first, seconds[0], (), ONE), modulus))
            self.assertTrue(self.check(2, (first, (), seconds[0], ONE), modulus))
            self.assertTrue(self.check(2, (first, seconds[0], ((0, 0, 1), (1, 0, 1)), Y), X))
            self.assertFalse(self.check(2, (first, seconds[0], ((1, 0, 1),), Y), X))

    def test_with_many_factors(self):
        # As many factors over the field as the power of y tells, with x in them, too.
        for prime in (2, 3):
            factors = [((0, 1, 1),), ((0, 1, 1), (1, 0, 1)), ((0, 0, 1), (0, 1, 1)), ((0, 0, 1), (0, 1, 1), (1, 0, 1)),
                       ((0, 1, 1), (2, 0, 1)), ((0, 1, 1), (1, 0, 1), (2, 0, 1)), ((0, 0, 1), (0, 1, 1), (2, 0, 1))]
            first = product(prime, *factors)
            for one, other in itertools.combinations(factors, 2):
                for modulus in [(), prime_polys(prime, 2, 1)[0], prime_polys(prime, 3, 1)[0]]:
                    rest = product(prime, *[poly for poly in factors if poly != one])
                    self.check(prime, (first, one, rest), modulus)
                    self.check(prime, (first, product(prime, one, other), rest, one), modulus)

    def test_first_entry_a_number(self):
        for prime in PRIMES:
            for modulus in moduli(prime):
                for rest in [(X,), ((),), ((), ()), (Y, Y), ((), (), ())]:
                    self.assertTrue(self.check(prime, (((0, 0, prime - 1),),) + rest, modulus))

    def test_judged(self):
        names = ("prime", "row", "modulus")
        for prime in PRIMES:
            wrong = [value for value in no_moduli(prime) if value != ()]
            bads = [(BadPrime, NO_PRIMES), (BadRow, no_rows(prime)), (BadModulus, wrong)]
            self.assert_judged(mixing_for, names, (prime, (Y, X, ONE), ()), bads)
            self.assert_judged(mixing_for, names, (prime, (Y, X, ONE), X), bads[:2] + [None])
            self.assert_refused(BadModulus, mixing_for, prime, (Y, X, ONE), [])
            for row in not_plain_rows(prime):
                self.assert_refused(NotPlain, mixing_for, prime, row, ())
                self.assert_refused(NotPlain, mixing_for, prime, row, None)
                self.assert_refused(BadRow, mixing_for, prime, row[:1], None)
                self.assert_refused(BadRow, mixing_for, prime, row[:1] + (None,), ())


def not_plain_rows(prime):
    """Rows whose first entry is not plain; others in them may be."""
    firsts = [(), X, ((1, 1, 1),), ((0, 2, 1), (1, 2, 1)), ((0, 3, 1), (1, 0, 1), (1, 3, prime - 1))]
    return [(first,) + rest for first in firsts for rest in [(Y,), (ONE, Y), (Y, ONE, ())]]


class ComingTest(JudgingCase):

    def check_found(self, prime, row, found):
        self.assertIs(found.__class__, tuple)
        tellings, shares = found
        self.assertIs(tellings.__class__, list)
        self.assertIs(shares.__class__, tuple)
        self.assertEqual(len(tellings), len(shares))
        for mixing, telling in tellings:
            self.assertEqual(len(mixing), len(row) - 2)
            mixed = summed(prime, row[1], summed_products(prime, mixing, row[2:]))
            r, u, v = telling
            self.assertLess(high_slowly(r, "y"), 1)
            self.assertNotEqual(r, ())
            self.assert_same(summed(prime, product(prime, u, row[0]), product(prime, v, mixed)), r)
            self.assert_same(is_telling(prime, row[0], mixed, telling), True)
        for share in shares:
            self.assertLess(high_slowly(share, "y"), 1)
        self.assert_same(summed_products(prime, shares, [telling[0] for _, telling in tellings]), ONE)
        self.assert_same(is_coming(prime, row, found), True)
        self.assert_same(is_coming(prime, row, (tuple(tellings), shares)), True)

    def check(self, prime, row):
        """Whether the row has a coming; just then it comes to 1, and has no spot."""
        found = coming(prime, row)
        self.assertEqual(found is None, ones(prime, row) is None)
        self.assertEqual(found is None, common_spot(prime, row) is not None)
        if found is None:
            return False
        self.check_found(prime, row, found)
        return True

    def test_by_hand(self):
        self.assertTrue(self.check(2, ROW))
        self.assert_same(is_coming(2, ROW, COMING), True)
        self.assert_same(is_coming(2, ROW, ([(((),), (X, (), ONE)), ((ONE,), (ONE, (), ONE))], ((), ONE))), True)
        self.assertFalse(self.check(2, (Y, X)))

    def test_drawn(self):
        for prime in PRIMES:
            source = random.Random(prime + 1)
            told = [0, 0]
            several = 0
            for size, terms, many in ((2, 3, 40), (2, 16, 10), (3, 3, 60), (3, 16, 20), (4, 4, 60), (4, 16, 20)):
                for _ in range(many):
                    row = plain_row(source, prime, size, terms)
                    told[self.check(prime, row)] += 1
                    found = coming(prime, row)
                    several += found is not None and len(found[1]) > 1
            self.assertGreater(min(told), 40)
            self.assertGreater(several, 3)

    def test_rows_that_need_more_than_one(self):
        for prime in PRIMES:
            less_one = ((0, 0, prime - 1), (1, 0, 1))
            # At x = 0 only the third entry helps, at x = 1 only the second one.
            row = (Y, X, less_one)
            self.assertTrue(self.check(prime, row))
            factors = [((0, 0, c), (1, 0, 1)) if c else X for c in range(min(prime, 3))]
            lots = [product(prime, *[poly for poly in factors if poly != held]) for held in factors]
            self.assertTrue(self.check(prime, (Y,) + tuple(lots)))
            self.assertTrue(self.check(prime, (((0, 2, 1), (1, 1, 1)),) + tuple(lots)))
            self.assertFalse(self.check(prime, (Y, X, ((1, 1, 1),))))

    def test_numbers_in_front(self):
        for prime in PRIMES:
            for c in range(1, prime):
                for rest in [(X,), ((),), ((), ()), (Y, Y), ((), (), ()), (((3, 3, 1),), X, Y)]:
                    self.assertTrue(self.check(prime, (((0, 0, c),),) + rest))

    def test_others_nothing(self):
        for prime in PRIMES:
            self.assertFalse(self.check(prime, (Y, ())))
            self.assertFalse(self.check(prime, (Y, (), ())))
            self.assertTrue(self.check(prime, (Y, (), ONE)))
            self.assertTrue(self.check(prime, (Y, (), (), ((0, 0, prime - 1), (0, 1, 1)))))
            self.assertFalse(self.check(prime, (((0, 2, 1), (1, 0, 1)), (), Y)))

    def test_higher_powers(self):
        for prime in PRIMES:
            first, second = ((0, 5, 1), (4, 1, 1), (6, 0, 1)), ((0, 0, 1), (5, 2, 1))
            for row in [(first, second, ((1, 0, 1), (2, 4, 1)), ((0, 0, 1), (0, 6, 1))),
                        (first, ((0, 0, 1), (4, 1, 1)), ((0, 0, 1), (4, 1, 1), (9, 0, 1)), X)]:
                self.check_found(prime, row, coming(prime, row))

    def test_limit(self):
        # What comes of y squared at x to the 500 is above the limit, but other mixings would be within it.
        row = (((0, 1, 1), (500, 0, 1)), ((0, 2, 1),), ONE)
        try:
            self.check_found(3, row, coming(3, row))
        except TooMany as error:
            self.assert_same(error.most, 999)
        self.check_found(3, (((0, 1, 1), (499, 0, 1)),) + row[1:], coming(3, (((0, 1, 1), (499, 0, 1)),) + row[1:]))

    def test_a_new_list_each_time(self):
        coming(2, ROW)[0].append(1)
        self.assertTrue(self.check(2, ROW))

    def test_judged(self):
        for prime in PRIMES:
            bads = [(BadPrime, NO_PRIMES), (BadRow, no_rows(prime))]
            self.assert_judged(coming, ("prime", "row"), (prime, (Y, X, ONE)), bads)
            for row in not_plain_rows(prime):
                self.assertFalse(is_plain_slowly(row[0]))
                self.assert_refused(NotPlain, coming, prime, row)
                self.assert_refused(NotPlain, is_coming, prime, row, COMING)
                self.assert_refused(BadRow, coming, prime, row + (X, X, X))
                self.assert_refused(BadRow, is_coming, prime, list(row), COMING)
                self.assert_refused(BadPrime, coming, 6, row)


class IsComingTest(JudgingCase):

    def test_values_of_every_kind(self):
        held, = COMING[0]
        mixing, telling = held
        wrong = list(STRANGE) + [
            (), [], {}, list(COMING), COMING[:1], COMING + ((),), ([], ()), ((), ()), ([held], ()), ([], (ONE,)),
            ([held], [ONE]), ([held], (ONE, ())), ([held, held], (ONE,)), ([held], ((),)), ([held], (X,)),
            ([held], (Y,)), (held, ONE),
            ([list(held)], (ONE,)), ([(list(mixing), telling)], (ONE,)), ([(mixing, list(telling))], (ONE,)),
            ([(mixing,)], (ONE,)), ([held + ((),)], (ONE,)), ([(mixing, telling[:2])], (ONE,)),
            ([(ONE, telling)], (ONE,)),
            ([((), telling)], (ONE,)), ([((ONE, ONE), telling)], (ONE,)), ([(((),), telling)], (ONE,)),
            ([(telling, mixing)], (ONE,)), ({0: held}, (ONE,)), ([held], {0: ONE}), ([held], ONE), ([held], None),
            ([held, None], (ONE, ())), ([held], (True,)), ([held], (1,)), ([held], (((0, 0, True),),)),
            ([(((0, 0, True),), telling)], (ONE,)), ([((((0, 0, True),),), telling)], (ONE,)),
            ([(mixing, (ONE, (), ((0, 0, True),)))], (ONE,)), ([(mixing, (ONE, False, ONE))], (ONE,)),
            ([(((),), (X, (), ONE))], (ONE,)), ([(((),), (X, (), ONE))], (X,)),
            ([(((),), (X, (), ONE)), held], (ONE, ONE)),
            ([(((),), ((), (), ()))], (ONE,)), ([held, (((),), ((), (), ()))], (ONE, ())),
            ([held, (((),), (Y, ONE, ()))], (ONE, ())), ([held, held], (Y, ((0, 0, 1), (0, 1, 1)))),
            ([nested("tuple", 77)], (ONE,)), ([(mixing, nested("list", 77))], (ONE,)), (nested("list", 79), (ONE,)),
            ([held], nested("tuple", 79)), ([held], (nested("dict", 78),)), ({}, (ONE,)), ("", ()), ("x", (ONE,)),
            (None, (ONE,)), (1, (ONE,)), (True, ()), (None, ()), (FillError("held"), (ONE,)),
        ]
        wrong += [([held], (value,)) for value in no_x_polys(2)]
        wrong += [([((value,), telling)], (ONE,)) for value in no_polys(2)]
        for value in wrong:
            self.assert_same(is_coming(2, ROW, value), False)
        for value in [COMING, (tuple(COMING[0]), COMING[1]), ([held, held], (X, ((0, 0, 1), (1, 0, 1)))),
                      ([held, (((),), (X, (), ONE))], (((0, 0, 1), (2, 0, 1)), X))]:
            self.assert_same(is_coming(2, ROW, value), True)

    def test_other_sizes(self):
        self.assert_same(is_coming(3, (Y, ONE), ([((), (ONE, (), ONE))], (ONE,))), True)
        self.assert_same(is_coming(3, (Y, ONE), ([(((),), (ONE, (), ONE))], (ONE,))), False)
        four = (Y, X, ONE, X)
        self.assert_same(is_coming(3, four, ([(((), ((0, 0, 2),)), (Y, ONE, ()))], (ONE,))), False)
        self.assert_same(is_coming(3, four, ([((ONE, ((0, 0, 2),)), (ONE, (), ONE))], (ONE,))), True)
        self.assert_same(is_coming(3, four, ([((ONE,), (ONE, (), ONE))], (ONE,))), False)

    def test_high_powers_on_the_way(self):
        # What is mixed has the power 1000 and is not asked for; shares of high powers cancel out.
        row = (ONE, X, ((500, 0, 1),))
        held = ((((500, 0, 1),),), (ONE, ONE, ()))
        self.assert_same(is_coming(2, row, ([held], (ONE,))), True)
        more = ((((500, 0, 1),),), (X, X, ()))
        self.assert_same(is_coming(2, row, ([held, more], (((0, 0, 1), (999, 0, 1)), ((998, 0, 1),)))), True)
        self.assert_same(is_coming(2, row, ([held, more, more], (ONE, ((999, 0, 1),), ((999, 0, 1),)))), True)

    def test_resultants_as_tellings(self):
        for prime in PRIMES:
            row = (((0, 2, 1), (1, 0, 1)), ((0, 1, 1),), ((0, 0, 1), (1, 0, 1)))
            first = resultant(prime, row[0], row[1])
            second = resultant(prime, row[0], summed(prime, row[1], row[2]))
            self.assert_same(is_telling(prime, row[0], row[1], first), True)
            self.assert_same(is_coming(prime, row, ([(((),), first), ((ONE,), second)], (ONE, ONE))),
                             summed(prime, first[0], second[0]) == ONE)

    def test_judged(self):
        names = ("prime", "row", "thing")
        for prime in PRIMES:
            bads = [(BadPrime, NO_PRIMES), (BadRow, no_rows(prime)), None]
            self.assert_judged(is_coming, names, (prime, (Y, ONE, X), ([(((),), (ONE, (), ONE))], (ONE,))), bads)
            self.assert_judged(is_coming, names, (prime, (Y, ONE, X), None), [(BadPrime, NO_PRIMES), None, None])


if __name__ == "__main__":
    unittest.main()
