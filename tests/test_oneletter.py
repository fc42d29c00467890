"""Point 61: rowsfilled/oneletter.py."""

import itertools
import random
import unittest

from rowsfilled.errors import BadForm, BadPrime, BadRow, BadSize, BadTable, TooMany
from rowsfilled.onevar import common
from rowsfilled.oneletter import form_table, is_form, is_steps_of, x_form, x_row_steps, x_steps
from rowsfilled.several import last_row
from rowsfilled.steps import steps_table
from tests.judging import JudgingCase
from tests.reference import (
    determinant_slowly, form_table_slowly, product_of_tables, scaled, summed, summed_products, unit_slowly,
)
from tests.samples import (
    NO_PRIMES, NO_SIZES, ONE, PRIMES, STRANGE, X, Y, drawn_form, drawn_steps, nested, no_forms, no_rows, no_step,
    no_tables, no_x_polys, x_poly,
)
from tests.test_steps import steps_table_slowly


def highest(polys):
    return max([max(i, j) for poly in polys for i, j, _ in poly], default=0)


def drawn_x_poly(source, prime, most):
    return x_poly([source.randrange(prime) for _ in range(source.randint(0, most + 1))])


def x_tables(source, prime, size, many):
    """Products of steps without y, and strips without y filled up by their last rows."""
    found = [unit_slowly(size)]
    while len(found) < many:
        steps = drawn_steps(source, prime, size, source.randint(1, 8), source.choice((1, 3)), 3, 1)
        found.append(steps_table_slowly(prime, size, steps))
    return found


class XStepsTest(JudgingCase):

    def check(self, prime, size, table):
        steps = x_steps(prime, size, table)
        self.assertIs(steps.__class__, list)
        for step in steps:
            self.assertIs(step.__class__, tuple)
            i, j, poly = step
            self.assertIn((i, j), list(itertools.permutations(range(size), 2)))
            self.assertEqual([term[1] for term in poly], [0] * len(poly))
        self.assert_same(steps_table_slowly(prime, size, steps), table)
        self.assert_same(is_steps_of(prime, size, table, steps), True)
        return steps

    def test_drawn(self):
        for prime in PRIMES:
            source = random.Random(prime)
            for size in (2, 3, 4):
                for table in x_tables(source, prime, size, 20):
                    self.check(prime, size, table)
                    turned = tuple(zip(*table))
                    self.check(prime, size, turned)

    def test_numbers(self):
        # Tables of numbers, the determinant being 1.
        for prime in (2, 3):
            numbers = [()] + [((0, 0, c),) for c in range(1, prime)]
            many = 0
            for a, b, c, d in itertools.product(numbers, repeat=4):
                if determinant_slowly(prime, ((a, b), (c, d))) == ONE:
                    self.check(prime, 2, ((a, b), (c, d)))
                    many += 1
            self.assertEqual(many, prime * (prime ** 2 - 1))
        for prime in PRIMES:
            minus = ((0, 0, prime - 1),)
            self.check(prime, 3, (((), (), ONE), (ONE, (), ()), ((), ONE, ())))
            self.check(prime, 4, (((), ONE, (), ()), (minus, (), (), ()), ((), (), (), ONE), ((), (), minus, ())))

    def test_powers_up_to_40_are_told(self):
        for prime in PRIMES:
            source = random.Random(prime + 1)
            for size in (3, 4):
                last = None
                while last is None:
                    strip = tuple(tuple(drawn_x_poly(source, prime, 40) for _ in range(size)) for _ in range(size - 1))
                    last = last_row(prime, strip)
                steps = self.check(prime, size, strip + (last,))
                self.assertLess(highest([poly for _, _, poly in steps]), 400)

    def test_high_powers(self):
        high = ((0, 0, 1), (999, 0, 1))
        for prime in PRIMES:
            self.check(prime, 2, ((ONE, high), ((), ONE)))
            self.check(prime, 3, ((ONE, (), high), ((), ONE, high), ((), (), ONE)))

    def test_steps_above_the_limit_are_not_told(self):
        source = random.Random(1)
        told = [0, 0]
        for _ in range(12):
            table = unit_slowly(3)
            for _ in range(30):
                i, j = source.sample(range(3), 2)
                step = (i, j, tuple((k, 0, 1) for k in sorted(source.sample(range(300), 3))))
                more = product_of_tables(2, table, steps_table(2, 3, [step]))
                table = more if highest([poly for row in more for poly in row]) <= 999 else table
            try:
                steps = x_steps(2, 3, table)
            except TooMany as error:
                self.assert_same(error.most, 999)
                told[0] += 1
            else:
                self.assertLessEqual(highest([poly for _, _, poly in steps]), 999)
                self.assert_same(is_steps_of(2, 3, table, steps), True)
                told[1] += 1
        self.assertGreater(told[1], 0)

    def no_x_tables(self, prime, size):
        found = no_tables(prime, (size,))
        unit = [list(row) for row in unit_slowly(size)]

        def with_entry(i, j, poly):
            rows = [list(row) for row in unit]
            rows[i][j] = poly
            return tuple(tuple(row) for row in rows)
        found += [with_entry(0, 1, Y), with_entry(1, 0, ((0, 0, 1), (0, 1, 1))), with_entry(size - 1, 0, ((1, 1, 1),))]
        found += [with_entry(0, 0, X), with_entry(1, 1, ()), ((ONE,) * size,) * size, with_entry(0, 0, Y)]
        found += [with_entry(0, 0, ((0, 0, c),)) for c in range(2, prime)]
        if prime != 2 and size != 4:
            # The rows of the unit table, the last one first: of two or three rows this has the determinant -1.
            found.append(unit_slowly(size)[::-1])
        return found

    def test_judged(self):
        for prime in PRIMES:
            for size in (2, 3, 4):
                wrong = self.no_x_tables(prime, size)
                bads = [(BadPrime, NO_PRIMES), (BadSize, NO_SIZES), (BadTable, wrong)]
                self.assert_judged(x_steps, ("prime", "size", "table"), (prime, size, unit_slowly(size)), bads)
                for other in (2, 3, 4):
                    if other != size:
                        self.assert_refused(BadTable, x_steps, prime, size, unit_slowly(other))
                        self.assert_refused(BadTable, is_steps_of, prime, size, unit_slowly(other), [])
            bads = [(BadPrime, NO_PRIMES), (BadTable, self.no_x_tables(prime, 2))]
            self.assert_judged(x_form, ("prime", "table"), (prime, unit_slowly(2)), bads)
            self.assert_refused(BadTable, x_form, prime, unit_slowly(3))


class IsStepsOfTest(JudgingCase):

    def test_drawn(self):
        for prime in PRIMES:
            source = random.Random(prime + 2)
            for size in (2, 3, 4):
                for _ in range(6):
                    steps = drawn_steps(source, prime, size, 5)
                    table = steps_table_slowly(prime, size, steps)
                    self.assert_same(is_steps_of(prime, size, table, steps), True)
                    self.assert_same(is_steps_of(prime, size, table, tuple(steps)), True)
                    self.assert_same(is_steps_of(prime, size, table, steps + [(0, 1, X)]), False)
                    self.assert_same(is_steps_of(prime, size, table, steps + [(0, 1, ())]), True)
                    self.assert_same(is_steps_of(prime, size, table, [(0, 1, Y)] + steps), False)

    def test_any_table(self):
        # Of tables with another determinant there are no steps; they are judged all the same.
        self.assert_same(is_steps_of(2, 2, ((X, Y), (Y, X)), [(0, 1, X)]), False)
        self.assert_same(is_steps_of(2, 2, ((X, Y), (Y, X)), None), False)
        self.assert_same(is_steps_of(3, 2, unit_slowly(2), []), True)
        self.assert_same(is_steps_of(3, 2, unit_slowly(2), ()), True)
        self.assert_same(is_steps_of(3, 2, ((ONE, Y), ((), ONE)), [(0, 1, Y)]), True)

    def test_values_of_every_kind(self):
        for prime in PRIMES:
            for size in (2, 3, 4):
                table = steps_table_slowly(prime, size, [(0, 1, X)])
                wrong = [value for value in STRANGE] + [[], (), {}, {0: (0, 1, X)}, (0, 1, X), [[0, 1, X]], [None]]
                wrong += [[value] for value in no_step(prime, size)] + [[(0, 1, X), value] for value in STRANGE]
                wrong += [[(1, 0, X)], [(0, 1, X), (0, 1, X), (1, 0, X)], "01x", nested("list", 80)]
                wrong += [[(0, 1, ((1, 0, True),))], [(False, 1, X)], [(0, True, X)], [((0, 1), X)]]
                for value in wrong:
                    self.assert_same(is_steps_of(prime, size, table, value), False)
                self.assert_same(is_steps_of(prime, size, table, [(0, 1, X)]), True)

    def test_powers_on_the_way(self):
        high = ((999, 0, 1),)
        steps = [(0, 1, high), (1, 0, high), (0, 1, high)]
        back = [(i, j, poly) for i, j, poly in reversed(steps)]
        self.assert_same(is_steps_of(2, 2, unit_slowly(2), steps + back), True)
        self.assert_same(is_steps_of(2, 2, unit_slowly(2), steps), False)

    def test_judged(self):
        names = ("prime", "size", "table", "thing")
        for prime in PRIMES:
            for size in (2, 3, 4):
                bads = [(BadPrime, NO_PRIMES), (BadSize, NO_SIZES), (BadTable, no_tables(prime, (size,))), None]
                self.assert_judged(is_steps_of, names, (prime, size, unit_slowly(size), []), bads)


class XRowStepsTest(JudgingCase):

    def check(self, prime, row):
        """Whether the row is led to 1 and 0: exactly if the polys have a common factor that is a number, not 0."""
        steps = x_row_steps(prime, row)
        shared = ()
        for poly in row:
            shared = common(prime, shared, poly)[0]
        self.assertEqual(steps is not None, shared == ONE, (prime, row))
        if steps is None:
            return False
        self.assertIs(steps.__class__, list)
        self.assertEqual([term[1] for _, _, poly in steps for term in poly if term[1] != 0], [])
        table = steps_table(prime, len(row), steps)
        found = tuple(summed_products(prime, row, column) for column in zip(*table))
        self.assert_same(found, (ONE,) + ((),) * (len(row) - 1))
        return True

    def test_drawn(self):
        for prime in PRIMES:
            source = random.Random(prime)
            told = [0, 0]
            for size in (2, 3, 4):
                for _ in range(40):
                    row = tuple(drawn_x_poly(source, prime, source.choice((0, 1, 3, 40))) for _ in range(size))
                    told[self.check(prime, row)] += 1
            self.assertGreater(min(told), 8)

    def test_numbers_and_nothing(self):
        for prime in PRIMES:
            for size in (2, 3, 4):
                self.assertFalse(self.check(prime, ((),) * size))
                for c in range(1, prime):
                    for at in range(size):
                        for rest in ((), X, ((1, 0, 1), (3, 0, 1))):
                            row = (rest,) * at + (((0, 0, c),),) + (rest,) * (size - at - 1)
                            self.assertTrue(self.check(prime, row))
                            self.assertFalse(self.check(prime, row[:at] + (X,) + row[at + 1:]))
                            self.assertTrue(self.check(prime, tuple(ONE if poly == X else poly for poly in row)))

    def test_common_factors(self):
        for prime in PRIMES:
            source = random.Random(prime + 1)
            for size in (2, 3, 4):
                row = tuple(drawn_x_poly(source, prime, 5) for _ in range(size))
                for factor in (X, ((0, 0, 1), (1, 0, 1)), ((0, 0, 1), (1, 0, 1), (2, 0, 1))):
                    row = tuple(summed_products(prime, (poly,), (factor,)) for poly in row)
                    self.assertFalse(self.check(prime, row))

    def test_powers_up_to_40(self):
        for prime in PRIMES:
            source = random.Random(prime + 2)
            for size in (2, 3, 4):
                row = tuple(drawn_x_poly(source, prime, 40) for _ in range(size))
                steps = x_row_steps(prime, row)
                if steps is not None:
                    self.assertLess(highest([poly for _, _, poly in steps]), 200)

    def test_judged(self):
        for prime in PRIMES:
            wrong = no_rows(prime) + [(X, Y), (Y, ONE), (ONE, X, ((1, 1, 1),)), (X, X, X, ((0, 0, 1), (0, 1, 1)))]
            wrong += [(value, X) for value in no_x_polys(prime)]
            for row in ((X, ONE), (X, ONE, ()), (X, ONE, (), X)):
                bads = [(BadPrime, NO_PRIMES), (BadRow, wrong)]
                self.assert_judged(x_row_steps, ("prime", "row"), (prime, row), bads)


class FormTest(JudgingCase):

    def test_by_hand(self):
        self.assert_same(x_form(3, unit_slowly(2)), (1, ()))
        table = ((ONE, X), ((), ONE))
        self.assert_same(x_form(3, table), (2, (((1, 0, 2),), ())))
        self.assert_same(form_table(3, (2, (((1, 0, 2),), ()))), table)
        # E(2x) E(0) alone: the form with 1 in front.
        self.assert_same(form_table(3, (1, (((1, 0, 2),), ()))), ((((0, 0, 2),), ((1, 0, 2),)), ((), ((0, 0, 2),))))

    def test_table(self):
        for prime in PRIMES:
            for c in range(1, prime):
                inverse = [d for d in range(1, prime) if c * d % prime == 1][0]
                self.assert_same(form_table(prime, (c, ())), ((((0, 0, c),), ()), ((), ((0, 0, inverse),))))
                table = form_table(prime, (c, (X,)))
                self.assert_same(table, ((((1, 0, c),), ((0, 0, c),)), (((0, 0, prime - inverse),), ())))
            source = random.Random(prime)
            for many in range(6):
                for _ in range(6):
                    form = drawn_form(source, prime, many, 1)
                    self.assert_same(is_form(prime, form), True)
                    table = form_table(prime, form)
                    self.assert_same(table, form_table_slowly(prime, form))
                    self.assert_same(determinant_slowly(prime, table), ONE)

    def test_just_one_form(self):
        for prime in PRIMES:
            source = random.Random(prime + 1)
            for many in range(7):
                for _ in range(20):
                    form = drawn_form(source, prime, many, 1, source.choice((1, 2, 4)))
                    self.assert_same(x_form(prime, form_table_slowly(prime, form)), form)

    def test_numbers_at_the_ends(self):
        for prime in PRIMES:
            numbers = [()] + [((0, 0, c),) for c in range(1, prime)]
            for first, last in itertools.product(numbers + [X], repeat=2):
                for inner in ((), (X,), (X, ((0, 0, 1), (1, 0, 1))), (X, X, ((2, 0, 1),))):
                    form = (prime - 1, (first,) + inner + (last,))
                    if form[1] != ((), ()):
                        self.assert_same(is_form(prime, form), True)
                        self.assert_same(x_form(prime, form_table_slowly(prime, form)), form)

    def test_all_tables_of_numbers(self):
        # Each has a form of at most two numbers; each such form has another table.
        for prime in (2, 3):
            numbers = [()] + [((0, 0, c),) for c in range(1, prime)]
            found = []
            for a, b, c, d in itertools.product(numbers, repeat=4):
                if determinant_slowly(prime, ((a, b), (c, d))) == ONE:
                    form = x_form(prime, ((a, b), (c, d)))
                    self.assert_same(form_table(prime, form), ((a, b), (c, d)))
                    self.assertLessEqual(len(form[1]), 2)
                    found.append(form)
            self.assertEqual(len(set(found)), len(found))

    def test_products_of_steps(self):
        for prime in PRIMES:
            source = random.Random(prime + 2)
            for table in x_tables(source, prime, 2, 30):
                form = x_form(prime, table)
                self.assert_same(is_form(prime, form), True)
                self.assert_same(form_table(prime, form), table)

    def test_high_powers(self):
        high = ((0, 0, 1), (999, 0, 1))
        for prime in PRIMES:
            for form in [(1, (high,)), (prime - 1, (high, ())), (1, ((), high)), (1, ((), high, ()))]:
                self.assert_same(x_form(prime, form_table(prime, form)), form)
            self.assert_too_many(999, form_table, prime, (1, (high, X)))
            self.assert_same(form_table(prime, (1, (((998, 0, 1),), X)))[0][0][-1], (999, 0, 1))
            # E(x ** 500) E(x ** 500) has x ** 1000 in it.
            self.assert_too_many(999, form_table, prime, (1, (((500, 0, 1),), ((500, 0, 1),))))
            self.assert_too_many(999, form_table, prime, (1, (((500, 0, 1),), ((500, 0, 1),), ())))

    def test_facts(self):
        for prime in PRIMES:
            source = random.Random(prime + 3)

            def e(poly):
                return (poly, ONE), (((0, 0, prime - 1),), ())

            def chain(*tables):
                found = unit_slowly(2)
                for table in tables:
                    found = product_of_tables(prime, found, table)
                return found
            for _ in range(6):
                p, q = drawn_x_poly(source, prime, 3), drawn_x_poly(source, prime, 3)
                minus = tuple(tuple(scaled(prime, -1, poly) for poly in row) for row in e(summed(prime, p, q)))
                self.assert_same(chain(e(p), e(()), e(q)), minus)
                for c in range(1, prime):
                    inverse = [d for d in range(1, prime) if c * d % prime == 1][0]
                    share = ((0, 0, prime - inverse),)
                    middle = ((((0, 0, c),), ()), ((), ((0, 0, inverse),)))
                    right = chain(e(summed(prime, p, share)), middle, e(summed(prime, q, share)))
                    left = chain(e(p), e(((0, 0, c),)), e(q))
                    self.assert_same(left, right)
                    # A number between two polys is taken out; what comes of it is the form.
                    form = x_form(prime, left)
                    self.assert_same(is_form(prime, form), True)
                    self.assert_same(form_table(prime, form), left)

    def test_is_form_of_values_of_every_kind(self):
        for prime in PRIMES:
            for value in no_forms(prime, 1):
                self.assert_same(is_form(prime, value), False)
            for value in [(1, ()), (1, ((),)), (1, (ONE,)), (1, (ONE, ())), (1, ((), ONE)), (prime - 1, (X,)),
                          (1, (ONE, ONE)), (1, ((), X, ())), (1, (ONE, X, ONE)), (1, (X, X, X, X))]:
                self.assert_same(is_form(prime, value), True)
                self.assert_same(x_form(prime, form_table(prime, value)), value)

    def test_judged(self):
        for prime in PRIMES:
            bads = [(BadPrime, NO_PRIMES), (BadForm, no_forms(prime, 1))]
            self.assert_judged(form_table, ("prime", "form"), (prime, (1, (X,))), bads)
            self.assert_judged(is_form, ("prime", "thing"), (prime, (1, (X,))), [(BadPrime, NO_PRIMES), None])
            self.assert_judged(is_form, ("prime", "thing"), (prime, None), [(BadPrime, NO_PRIMES), None])


if __name__ == "__main__":
    unittest.main()
