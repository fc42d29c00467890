"""Points 62 and 63: rowsfilled/twobytwo.py."""

import random
import unittest

from rowsfilled.errors import BadForm, BadPrime, BadRow, BadTable
from rowsfilled.oneletter import is_form, is_steps_of, x_form
from rowsfilled.polys import put
from rowsfilled.steps import steps_undone
from rowsfilled.turns import turned
from rowsfilled.twobytwo import (
    is_pair_form, is_stuck, lowered, lowering, pair_form, pair_form_table, pair_steps,
)
from tests.judging import JudgingCase
from tests.reference import (
    determinant_slowly, form_table_slowly, product, product_of_tables, scaled, summed, unit_slowly,
)
from tests.samples import (
    NO_PRIMES, ONE, PRIMES, X, Y, drawn_form, drawn_poly, drawn_row, drawn_steps, is_number_poly, nested, no_forms,
    no_rows, no_tables, x_poly,
)
from tests.test_steps import steps_table_slowly

XY_AND_ONE = ((0, 0, 1), (1, 1, 1))
SWAP = ("swap",)


def cohn(prime):
    """The table that Cohn told: its first row is stuck."""
    return ((XY_AND_ONE, ((2, 0, 1),)), (((0, 2, prime - 1),), ((0, 0, 1), (1, 1, prime - 1))))


def lead_slowly(poly):
    return sorted(poly, key=lambda term: (term[0] + term[1], term[0]))[-1]


def lowering_slowly(prime, pair):
    if () in pair:
        return None
    (i, j, c), (k, m, d) = lead_slowly(pair[0]), lead_slowly(pair[1])
    for one, other, number in ((0, 1, -d * pow(c, -1, prime)), (1, 0, -c * pow(d, -1, prime))):
        right, up = (k - i, m - j) if one == 0 else (i - k, j - m)
        if right >= 0 and up >= 0:
            return one, other, ((right, up, number % prime),)
    return None


def behind(prime, pair, step):
    """The pair times the table of the step."""
    i, j, poly = step
    found = list(pair)
    found[j] = summed(prime, pair[j], product(prime, poly, pair[i]))
    return tuple(found)


def lowered_slowly(prime, pair):
    steps = []
    step = lowering_slowly(prime, pair)
    while step is not None:
        steps.append(step)
        pair = behind(prime, pair, step)
        step = lowering_slowly(prime, pair)
    return steps, pair


def swapped(prime, table):
    return tuple(tuple(turned(prime, poly, SWAP) for poly in row) for row in table)


def some_pairs(source, prime, many):
    """Drawn pairs, and rows of products of steps."""
    found = [(X, Y), (X, X), (ONE, X), ((), X), (X, ()), ((), ()), (ONE, ONE), (XY_AND_ONE, ((2, 0, 1),))]
    while len(found) < many:
        found.append(drawn_row(source, prime, 2, source.choice((1, 2, 3)), source.choice((1, 2, 4))))
        found.append(steps_table_slowly(prime, 2, drawn_steps(source, prime, 2, source.randint(1, 4)))[0])
        found.append(product_of_tables(prime, cohn(prime), steps_table_slowly(
            prime, 2, drawn_steps(source, prime, 2, source.randint(1, 3))))[0])
    return found


class LoweringTest(JudgingCase):

    def test_by_hand(self):
        pair = (XY_AND_ONE, X)
        self.assert_same(lowering(3, pair), (1, 0, ((0, 1, 2),)))
        self.assert_same(lowering(3, (ONE, X)), (0, 1, ((1, 0, 2),)))
        self.assert_same(lowered(3, pair), ([(1, 0, ((0, 1, 2),)), (0, 1, ((1, 0, 2),))], (ONE, ())))
        self.assert_same(lowering(2, cohn(2)[0]), None)
        self.assert_same(lowered(2, cohn(2)[0]), ([], cohn(2)[0]))
        self.assert_same(is_stuck(2, cohn(2)[0]), True)
        self.assert_same(is_stuck(3, pair), False)

    def test_leads_either_way(self):
        for prime in PRIMES:
            for c in range(1, prime):
                minus = (prime - c) % prime
                self.assert_same(lowering(prime, (X, ((2, 1, c),))), (0, 1, ((1, 1, minus),)))
                self.assert_same(lowering(prime, (((2, 1, c),), X)), (1, 0, ((1, 1, minus),)))
                # Neither way, and both ways: of the same lead the first one is led from.
                self.assert_same(lowering(prime, (((2, 0, 1),), ((1, 1, c),))), None)
                self.assert_same(lowering(prime, (((3, 0, c),), ((0, 1, 1),))), None)
                self.assert_same(lowering(prime, (((2, 1, 1),), ((2, 1, c),))), (0, 1, ((0, 0, minus),)))
                self.assert_same(lowering(prime, (((0, 0, 1),), ((0, 0, c),))), (0, 1, ((0, 0, minus),)))
                self.assert_same(lowering(prime, (((0, 0, c),), X)), (0, 1, ((1, 0, prime - pow(c, -1, prime)),)))

    def test_the_lead_counts(self):
        # x leads x + y, so y ** 2 stays; x * y leads x * y + y ** 2.
        x_and_y = ((0, 1, 1), (1, 0, 1))
        self.assert_same(lowering(2, (x_and_y, ((0, 2, 1),))), None)
        self.assert_same(lowering(2, (x_and_y, ((0, 2, 1), (1, 1, 1)))), (0, 1, Y))
        self.assert_same(lowered(2, (x_and_y, ((0, 2, 1), (1, 1, 1)))), ([(0, 1, Y)], (x_and_y, ())))
        # y ** 3 leads x ** 2 + y ** 3.
        self.assert_same(lowering(2, (X, ((0, 3, 1), (2, 0, 1)))), None)
        self.assert_same(lowering(2, (Y, ((0, 3, 1), (2, 0, 1)))), (0, 1, ((0, 2, 1),)))

    def test_nothing_among_them(self):
        for prime in PRIMES:
            for pair in [((), ()), ((), X), (X, ()), ((), ONE), (XY_AND_ONE, ())]:
                self.assert_same(lowering(prime, pair), None)
                self.assert_same(lowered(prime, pair), ([], pair))
                self.assert_same(is_stuck(prime, pair), False)

    def test_against_the_words(self):
        for prime in PRIMES:
            source = random.Random(prime)
            several = 0
            for pair in some_pairs(source, prime, 120):
                self.assert_same(lowering(prime, pair), lowering_slowly(prime, pair))
                found = lowered(prime, pair)
                steps, last = found
                self.assertIs(found.__class__, tuple)
                self.assertIs(steps.__class__, list)
                self.assertIs(last.__class__, tuple)
                self.assert_same(found, lowered_slowly(prime, pair))
                self.assert_same(lowering(prime, last), None)
                self.assert_same(is_stuck(prime, pair), () not in last)
                several += len(steps) > 2
            self.assertGreater(several, 10)

    def test_each_leaves_less(self):
        for prime in PRIMES:
            source = random.Random(prime + 1)
            for pair in some_pairs(source, prime, 40):
                for step in lowered(prime, pair)[0]:
                    j = step[1]
                    before = lead_slowly(pair[j])
                    pair = behind(prime, pair, step)
                    if pair[j] != ():
                        now = lead_slowly(pair[j])
                        self.assertLess((now[0] + now[1], now[0]), (before[0] + before[1], before[0]))

    def test_new_lists_each_time(self):
        lowered(3, (XY_AND_ONE, X))[0].append(1)
        self.assertEqual(len(lowered(3, (XY_AND_ONE, X))[0]), 2)

    def test_limit(self):
        # x * y ** 999 less y ** 999 times x + y leaves y ** 1000.
        pair = (((0, 1, 1), (1, 0, 1)), ((1, 999, 1),))
        self.assert_same(lowering(2, pair), (0, 1, ((0, 999, 1),)))
        self.assert_too_many(999, lowered, 2, pair)
        self.assert_same(is_stuck(2, pair), True)
        self.assert_same(lowered(2, (pair[0], ((1, 998, 1),))), ([(0, 1, ((0, 998, 1),))], (pair[0], ((0, 999, 1),))))
        # Of x ** 2 * y ** 999 it leaves x * y ** 1000, and then a step with y ** 1000 goes on.
        self.assert_too_many(999, lowered, 3, (pair[0], ((2, 999, 1),)))
        self.assert_same(is_stuck(3, (pair[0], ((2, 999, 1),))), True)
        self.assert_refused(BadRow, lowered, 2, pair + ((),))

    def test_judged(self):
        for prime in PRIMES:
            wrong = no_rows(prime, (2,)) + [(X, Y, ONE), (X, Y, ONE, ())]
            bads = [(BadPrime, NO_PRIMES), (BadRow, wrong)]
            for function in (lowering, lowered, is_stuck):
                for pair in ((X, ONE), (X, Y)):
                    self.assert_judged(function, ("prime", "pair"), (prime, pair), bads)


class StuckTest(JudgingCase):

    def test_the_same_behind_any_steps(self):
        for prime in PRIMES:
            source = random.Random(prime + 2)
            told = [0, 0]
            for pair in some_pairs(source, prime, 40):
                answer = is_stuck(prime, pair)
                told[answer] += 1
                for _ in range(3):
                    moved = pair
                    for step in drawn_steps(source, prime, 2, source.randint(1, 3)):
                        moved = behind(prime, moved, step)
                    self.assert_same(is_stuck(prime, moved), answer)
                self.assert_same(is_stuck(prime, pair[::-1]), answer)
                self.assert_same(is_stuck(prime, swapped(prime, (pair,))[0]), answer)
                self.assert_same(is_stuck(prime, swapped(prime, (pair[::-1],))[0]), answer)
            self.assertGreater(min(told), 8)

    def test_pairs_of_one_letter(self):
        for prime in PRIMES:
            source = random.Random(prime + 3)
            for _ in range(25):
                pair = tuple(x_poly([source.randrange(prime) for _ in range(source.randint(0, 8))]) for _ in (0, 1))
                self.assert_same(is_stuck(prime, pair), False)
                self.assert_same(is_stuck(prime, swapped(prime, (pair,))[0]), False)
                steps, last = lowered(prime, pair)
                self.assertIn((), last)

    def test_what_is_left_divides_both(self):
        from rowsfilled.commons import quotient
        for prime in PRIMES:
            source = random.Random(prime + 4)
            for _ in range(20):
                factor = drawn_poly(source, prime, 2, 3)
                steps = drawn_steps(source, prime, 2, 3)
                pair = (factor, ())
                for step in steps:
                    pair = behind(prime, pair, step)
                self.assert_same(is_stuck(prime, pair), False)
                last = [poly for poly in lowered(prime, pair)[1] if poly != ()]
                self.assertEqual(len(last), factor != ())
                for poly in pair if last else ():
                    self.assertIsNotNone(quotient(prime, poly, last[0]))
                if last:
                    self.assertIsNotNone(quotient(prime, factor, last[0]))


class PairStepsTest(JudgingCase):

    def check(self, prime, table):
        """Whether the table is the product of steps; rows and columns are stuck all or none."""
        steps = pair_steps(prime, table)
        pairs = table + tuple(zip(*table))
        self.assertEqual([is_stuck(prime, pair) for pair in pairs], [steps is None] * 4)
        form = pair_form(prime, table)
        self.assertEqual(form is None, steps is None)
        if steps is None:
            return False
        self.assertIs(steps.__class__, list)
        self.assert_same(steps_table_slowly(prime, 2, steps), table)
        self.assert_same(is_steps_of(prime, 2, table, steps), True)
        self.assert_same(is_pair_form(prime, form), True)
        self.assert_same(form_table_slowly(prime, form), table)
        return True

    def test_by_hand(self):
        table = ((XY_AND_ONE, X), (Y, ONE))
        self.assertTrue(self.check(3, table))
        self.assert_same(is_steps_of(3, 2, table, [(0, 1, X), (1, 0, Y)]), True)
        self.assertFalse(self.check(2, cohn(2)))
        self.assert_same(determinant_slowly(2, cohn(2)), ONE)

    def test_products_of_steps(self):
        for prime in PRIMES:
            source = random.Random(prime)
            for many in (0, 1, 2, 3, 4, 6, 8):
                for _ in range(6):
                    steps = drawn_steps(source, prime, 2, many, source.choice((1, 2, 3)), source.choice((1, 2, 3)))
                    table = steps_table_slowly(prime, 2, steps)
                    self.assertTrue(self.check(prime, table))
                    self.assertTrue(self.check(prime, swapped(prime, table)))
                    self.assertTrue(self.check(prime, tuple(zip(*table))))

    def test_what_is_led_from_cohns_table(self):
        for prime in PRIMES:
            source = random.Random(prime + 1)
            self.assertFalse(self.check(prime, cohn(prime)))
            for _ in range(12):
                front = steps_table_slowly(prime, 2, drawn_steps(source, prime, 2, source.randint(0, 3)))
                back = steps_table_slowly(prime, 2, drawn_steps(source, prime, 2, source.randint(0, 3)))
                table = product_of_tables(prime, product_of_tables(prime, front, cohn(prime)), back)
                self.assertFalse(self.check(prime, table))
                self.assertFalse(self.check(prime, swapped(prime, table)))

    def test_cohns_kind(self):
        # 1 + x * y * t with x ** 2 * t and y ** 2 beside it: stuck where t is a number, or more.
        for prime in PRIMES:
            for t in (ONE, X, Y, ((0, 0, prime - 1),), ((0, 0, 1), (1, 0, 1))):
                middle = product(prime, ((1, 1, 1),), t)
                table = ((summed(prime, ONE, middle), product(prime, ((2, 0, 1),), t)),
                         (product(prime, ((0, 2, prime - 1),), t), summed(prime, ONE, scaled(prime, -1, middle))))
                self.assert_same(determinant_slowly(prime, table), ONE)
                self.assertFalse(self.check(prime, table))

    def test_numbers_in_front(self):
        for prime in PRIMES:
            for c in range(1, prime):
                number, inverse = ((0, 0, c),), ((0, 0, pow(c, -1, prime)),)
                self.assertTrue(self.check(prime, ((number, ()), ((), inverse))))
                self.assertTrue(self.check(prime, (((), number), (scaled(prime, -1, inverse), ()))))
                self.assertTrue(self.check(prime, ((number, ()), (XY_AND_ONE, inverse))))
                self.assertTrue(self.check(prime, (((), number), (scaled(prime, -1, inverse), XY_AND_ONE))))

    def test_results_stay_low(self):
        for prime in PRIMES:
            source = random.Random(prime + 2)
            for _ in range(12):
                table = steps_table_slowly(prime, 2, drawn_steps(source, prime, 2, 4, 3, 3))
                highest = max([max(i, j) for _, _, poly in pair_steps(prime, table) for i, j, _ in poly], default=0)
                self.assertLess(highest, 100)

    def test_undone(self):
        for prime in PRIMES:
            source = random.Random(prime + 3)
            steps = drawn_steps(source, prime, 2, 5)
            table = steps_table_slowly(prime, 2, steps)
            found = steps_undone(prime, 2, pair_steps(prime, table))
            self.assert_same(product_of_tables(prime, table, steps_table_slowly(prime, 2, found)), unit_slowly(2))

    def no_whole_tables(self, prime):
        found = no_tables(prime, (2,)) + [unit_slowly(3), unit_slowly(4), ((X, ()), ((), ONE)), ((X, Y), (Y, X))]
        found += [((ONE, ()), ((), ())), (((), ()), ((), ())), ((X, Y), (X, Y)), ((ONE, X), (Y, ONE))]
        found += [((ONE, X), ((), ((0, 0, c),))) for c in range(2, prime)]
        return found

    def test_judged(self):
        for prime in PRIMES:
            bads = [(BadPrime, NO_PRIMES), (BadTable, self.no_whole_tables(prime))]
            for function in (pair_steps, pair_form):
                self.assert_judged(function, ("prime", "table"), (prime, ((ONE, Y), ((), ONE))), bads)
                self.assert_judged(function, ("prime", "table"), (prime, cohn(prime)), bads)


class PairFormTest(JudgingCase):

    def test_by_hand(self):
        table = ((XY_AND_ONE, X), (Y, ONE))
        self.assert_same(pair_form(2, table), (1, (X, Y)))
        self.assert_same(pair_form_table(2, (1, (X, Y))), table)
        self.assert_same(pair_form(2, cohn(2)), None)
        self.assert_same(pair_form(5, unit_slowly(2)), (1, ()))

    def test_table(self):
        for prime in PRIMES:
            source = random.Random(prime)
            for many in range(6):
                for _ in range(8):
                    form = drawn_form(source, prime, many, 2)
                    self.assert_same(is_pair_form(prime, form), True)
                    table = pair_form_table(prime, form)
                    self.assert_same(table, form_table_slowly(prime, form))
                    self.assert_same(determinant_slowly(prime, table), ONE)

    def test_just_one_form(self):
        for prime in PRIMES:
            source = random.Random(prime + 1)
            for many in range(7):
                for _ in range(15):
                    form = drawn_form(source, prime, many, 2, source.choice((1, 2)))
                    self.assert_same(pair_form(prime, form_table_slowly(prime, form)), form)

    def test_none_exactly_if_stuck(self):
        for prime in PRIMES:
            source = random.Random(prime + 2)
            for start in (unit_slowly(2), cohn(prime)):
                for _ in range(10):
                    steps = drawn_steps(source, prime, 2, source.randint(0, 4))
                    table = product_of_tables(prime, start, steps_table_slowly(prime, 2, steps))
                    self.assertEqual(pair_form(prime, table) is None, is_stuck(prime, table[0]))
                    self.assertEqual(pair_form(prime, table) is None, start != unit_slowly(2))

    def test_of_tables_in_x(self):
        for prime in PRIMES:
            source = random.Random(prime + 3)
            for many in range(6):
                form = drawn_form(source, prime, many, 1)
                table = form_table_slowly(prime, form)
                self.assert_same(pair_form(prime, table), x_form(prime, table))
                self.assert_same(is_form(prime, pair_form(prime, table)), True)
                other = swapped(prime, table)
                self.assert_same(pair_form(prime, other), (form[0], swapped(prime, (form[1],))[0]))

    def test_letters_exchanged(self):
        for prime in PRIMES:
            source = random.Random(prime + 4)
            for many in range(6):
                for _ in range(5):
                    form = drawn_form(source, prime, many, 2)
                    table = swapped(prime, form_table_slowly(prime, form))
                    self.assert_same(pair_form(prime, table), (form[0], swapped(prime, (form[1],))[0]))

    def test_other_polys_put_for_the_letters(self):
        for prime in PRIMES:
            source = random.Random(prime + 5)
            told = [0, 0]
            for many in range(6):
                for _ in range(6):
                    form = drawn_form(source, prime, many, 2, 1, 2)
                    one, other = drawn_poly(source, prime, 1, 2), drawn_poly(source, prime, 1, 2)
                    moved = (form[0], tuple(put(prime, poly, one, other) for poly in form[1]))
                    table = tuple(tuple(put(prime, poly, one, other) for poly in row)
                                  for row in form_table_slowly(prime, form))
                    self.assert_same(form_table_slowly(prime, moved), table)
                    found = pair_form(prime, table)
                    still = moved[1] != ((), ()) and not any(is_number_poly(poly) for poly in moved[1][1:-1])
                    told[still] += 1
                    self.assert_same(is_pair_form(prime, moved), still)
                    self.assertEqual(found == moved, still)
            self.assertGreater(min(told), 1)

    def test_is_pair_form_of_values_of_every_kind(self):
        for prime in PRIMES:
            for value in no_forms(prime, 2):
                self.assert_same(is_pair_form(prime, value), False)
            for value in [(1, ()), (1, ((),)), (1, (ONE,)), (1, (ONE, ())), (1, ((), Y)), (prime - 1, (Y,)),
                          (1, (ONE, ONE)), (1, ((), Y, ())), (1, (Y, X, Y)), (1, (X, Y, X, Y)), (1, (XY_AND_ONE, X))]:
                self.assert_same(is_pair_form(prime, value), True)
                self.assert_same(pair_form(prime, pair_form_table(prime, value)), value)

    def test_limit(self):
        high = ((999, 999, 1),)
        for prime in PRIMES:
            self.assert_same(pair_form_table(prime, (1, (high,)))[0][0], high)
            self.assert_too_many(999, pair_form_table, prime, (1, (high, X)))
            self.assert_too_many(999, pair_form_table, prime, (1, (Y, high)))
            self.assert_same(pair_form(prime, pair_form_table(prime, (1, (high,)))), (1, (high,)))
            self.assert_refused(BadForm, pair_form_table, prime, (1, (high, ONE, X)))

    def test_judged(self):
        for prime in PRIMES:
            bads = [(BadPrime, NO_PRIMES), (BadForm, no_forms(prime, 2))]
            self.assert_judged(pair_form_table, ("prime", "form"), (prime, (1, (X, Y))), bads)
            self.assert_judged(is_pair_form, ("prime", "thing"), (prime, (1, (X, Y))), [(BadPrime, NO_PRIMES), None])
            deep = nested("list", 80)
            self.assert_judged(is_pair_form, ("prime", "thing"), (prime, deep), [(BadPrime, NO_PRIMES), None])


if __name__ == "__main__":
    unittest.main()
