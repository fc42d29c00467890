"""Point 2, and the whole program: what one module tells of a row fits what the others tell of it."""

import random
import unittest

from rowsfilled.coming import coming
from rowsfilled.filling import filled, is_filled, is_opened, moves_of, opened, places_of
from rowsfilled.kinds import is_fold, led_fold, led_strip, rank_of, straightened
from rowsfilled.minors import adjoint, dependent, grid_by, minors, multiples
from rowsfilled.moving import determinant, inverse, row_by, table_product, unit
from rowsfilled.oneletter import is_steps_of, x_form, x_row_steps, x_steps
from rowsfilled.ones import are_ones, ones
from rowsfilled.polys import less
from rowsfilled.several import crossing, factor_of, goal_met, is_last_row, last_row, solves
from rowsfilled.solving import basis, is_basis, is_led, is_solution, led, parts_of
from rowsfilled.steps import steps_joined, steps_table, steps_turned, steps_undone
from rowsfilled.texts import grid_text, read_grid, read_row, read_steps, row_text, steps_text
from rowsfilled.turns import is_plain, turned
from rowsfilled.twobytwo import is_pair_form, is_stuck, pair_form, pair_form_table, pair_steps
from rowsfilled.zeros import common_spot, is_spot, rest_size
from tests.judging import JudgingCase
from tests.reference import diagonal
from tests.samples import ONE, PRIMES, drawn_low_row, drawn_poly, drawn_steps, low_rows_to_one


def columns_of(table):
    return tuple(zip(*table))


def first_of(size):
    return (ONE,) + ((),) * (size - 1)


class RowsThatComeToOneTest(JudgingCase):

    def rows(self, prime, sizes=(2, 3, 4), many=8):
        source = random.Random(prime)
        return [row for size in sizes for row in low_rows_to_one(source, prime, size, many)]

    def test_tables(self):
        for prime in PRIMES:
            for row in self.rows(prime):
                size = len(row)
                table = filled(prime, row)
                back = inverse(prime, table)
                self.assert_same(adjoint(prime, table), back)
                self.assert_same(is_opened(prime, row, back), True)
                self.assert_same(row_by(prime, row, back), first_of(size))
                self.assert_same(row_by(prime, first_of(size), table), row)
                self.assert_same(table_product(prime, back, table), unit(prime, size))
                self.assert_same(is_filled(prime, row, inverse(prime, opened(prime, row))), True)
                self.assert_same(determinant(prime, back), ONE)
                self.assert_same(is_led(prime, first_of(size), row, table), True)

    def test_solutions(self):
        for prime in PRIMES:
            for row in self.rows(prime):
                table = opened(prime, row)
                columns = columns_of(table)
                self.assert_same(are_ones(prime, row, columns[0]), True)
                self.assert_same(is_basis(prime, row, columns[1:]), True)
                self.assert_same([is_solution(prime, row, column) for column in columns],
                                 [False] + [True] * (len(row) - 1))
                # What two columns by which the row adds up to one differ by is a solution.
                told = ones(prime, row)
                column = tuple(less(prime, one, other) for one, other in zip(told, columns[0]))
                parts = parts_of(prime, row, columns[1:], column)
                self.assert_same(row_by(prime, (ONE,) + parts, columns), told)
                found = basis(prime, row)
                for column in found:
                    parts_of(prime, row, columns[1:], column)
                    self.assert_same(is_solution(prime, row, column), True)

    def test_strips(self):
        for prime in PRIMES:
            source = random.Random(prime + 1)
            before = {}
            for row in self.rows(prime, (3, 4)):
                size = len(row)
                table = filled(prime, row)
                strip = table[:-1]
                self.assertIsNotNone(multiples(prime, strip))
                self.assertIsNone(dependent(prime, strip))
                self.assert_same(is_last_row(prime, strip, table[-1]), True)
                self.assert_same(is_last_row(prime, strip, last_row(prime, strip)), True)
                across = crossing(prime, strip)
                self.assert_same(solves(prime, strip, across), True)
                # It is the last column of the inverse table, but for the sign.
                last = columns_of(inverse(prime, table))[-1]
                self.assert_same(factor_of(prime, strip, last), ((0, 0, 1 if size == 3 else prime - 1),))
                goals = tuple(drawn_poly(source, prime, 2, 2) for _ in strip)
                met = goal_met(prime, strip, goals)
                self.assert_same(row_by(prime, met, columns_of(table))[:-1], goals)
                if size in before:
                    moved = led_strip(prime, before[size], strip)
                    self.assert_same(grid_by(prime, before[size], moved), strip)
                before[size] = strip

    def test_rows_led_to_rows(self):
        for prime in PRIMES:
            before = {}
            for row in self.rows(prime):
                size = len(row)
                if size in before:
                    table = led(prime, before[size], row)
                    self.assert_same(row_by(prime, before[size], table), row)
                    self.assert_same(is_led(prime, row, before[size], inverse(prime, table)), True)
                before[size] = row

    def test_moves(self):
        for prime in PRIMES:
            told = 0
            for row in self.rows(prime, (2, 3, 4), 12):
                if is_plain(prime, row[0]):
                    told += 1
                    brought = coming(prime, row)
                    held = row
                    for move in moves_of(prime, row, brought):
                        held = row_by(prime, held, move)
                    self.assert_same(places_of(prime, row, brought)[-1], ())
                    self.assert_same(held, tuple(tuple(term for term in poly if term[1] == 0) for poly in row))
                    # With x alone the row is led on by steps; all together open it.
                    steps = x_row_steps(prime, held)
                    self.assert_same(row_by(prime, held, steps_table(prime, len(row), steps)), first_of(len(row)))
            self.assertGreater(told, 5)

    def test_all_tables_together_open_the_row(self):
        for prime in PRIMES:
            for row in self.rows(prime, (2, 3), 10):
                if is_plain(prime, row[0]):
                    brought = coming(prime, row)
                    table = unit(prime, len(row))
                    for move in moves_of(prime, row, brought):
                        table = table_product(prime, table, move)
                    steps = x_row_steps(prime, row_by(prime, row, table))
                    table = table_product(prime, table, steps_table(prime, len(row), steps))
                    self.assert_same(is_opened(prime, row, table), True)
                    self.assert_same(is_filled(prime, row, inverse(prime, table)), True)

    def test_texts(self):
        for prime in PRIMES:
            for row in self.rows(prime):
                self.assert_same(read_row(prime, row_text(prime, row)), row)
                for table in (filled(prime, row), opened(prime, row)):
                    self.assert_same(read_grid(prime, grid_text(prime, table)), table)
                    self.assert_same(grid_text(prime, table).split("; ")[0], row_text(prime, table[0]))

    def test_turned_rows(self):
        for prime in PRIMES:
            for row in self.rows(prime):
                table = filled(prime, row)
                for turn in (("swap",), ("slide", 1), ("back", 2)):
                    moved = tuple(tuple(turned(prime, poly, turn) for poly in held) for held in table)
                    self.assert_same(is_filled(prime, moved[0], moved), True)

    def test_folds(self):
        for prime in PRIMES:
            source = random.Random(prime + 2)
            for row in self.rows(prime, (2, 3), 10):
                size = len(row)
                back = opened(prime, row)
                for rank in range(size + 1):
                    middle = diagonal(size, rank)
                    fold = table_product(prime, table_product(prime, back, middle), inverse(prime, back))
                    self.assert_same(is_fold(prime, fold), True)
                    self.assert_same(rank_of(prime, fold), rank)
                    low = all(i + j <= 2 for held in fold for poly in held for i, j, _ in poly)
                    if size == 3 and not low:
                        self.assert_too_many(2, straightened, prime, fold)
                        continue
                    table = straightened(prime, fold)
                    self.assert_same(table_product(prime, fold, table), table_product(prime, table, middle))
                    moved = led_fold(prime, middle, fold)
                    self.assert_same(table_product(prime, middle, moved), table_product(prime, moved, fold))
                    if rank == 1 and size == 2:
                        # A column times a row whose product is one.
                        column = tuple(poly[0] for poly in table)
                        self.assert_same(are_ones(prime, inverse(prime, table)[0], column), True)
                        self.assertIsNone(led_fold(prime, fold, diagonal(2, source.choice((0, 2)))))


class TwoByTwoTest(JudgingCase):

    def test_rows_of_two(self):
        for prime in PRIMES:
            source = random.Random(prime + 3)
            stuck = [0, 0]
            for row in low_rows_to_one(source, prime, 2, 25):
                for table in (filled(prime, row), opened(prime, row)):
                    steps, form = pair_steps(prime, table), pair_form(prime, table)
                    stuck[steps is None] += 1
                    self.assertEqual(steps is None, is_stuck(prime, table[0]))
                    self.assertEqual(form is None, steps is None)
                    if steps is not None:
                        self.check_steps(prime, 2, table, steps)
                        self.assert_same(is_pair_form(prime, form), True)
                        self.assert_same(pair_form_table(prime, form), table)
            self.assertGreater(stuck[0], 10)

    def test_cohns_row_is_filled_but_stuck(self):
        for prime in PRIMES:
            row = (((0, 0, 1), (1, 1, 1)), ((2, 0, 1),))
            table = filled(prime, row)
            self.assert_same(is_filled(prime, row, table), True)
            self.assert_same(is_stuck(prime, row), True)
            self.assertIsNone(pair_steps(prime, table))
            self.assertIsNone(pair_form(prime, table))
            # With a third entry, (), it is led to 1 all the same.
            self.assert_same(is_opened(prime, row + ((),), opened(prime, row + ((),))), True)

    def check_steps(self, prime, size, table, steps):
        self.assert_same(steps_table(prime, size, steps), table)
        self.assert_same(is_steps_of(prime, size, table, steps), True)
        self.assert_same(steps_table(prime, size, steps_undone(prime, size, steps)), inverse(prime, table))
        self.assert_same(steps_table(prime, size, steps_turned(prime, size, steps)), columns_of(table))
        self.assert_same(is_steps_of(prime, size, table, steps_joined(prime, size, steps)), True)
        self.assert_same(read_steps(prime, size, steps_text(prime, size, steps)), steps)

    def test_rows_in_x(self):
        for prime in PRIMES:
            source = random.Random(prime + 4)
            told = [0, 0]
            for size in (2, 3, 4):
                for _ in range(15):
                    row = tuple(tuple((i, 0, c) for i, c in enumerate(source.choices(range(prime), k=3)) if c)
                                for _ in range(size))
                    steps = x_row_steps(prime, row)
                    told[steps is not None] += 1
                    self.assertEqual(steps is None, filled(prime, row) is None)
                    if steps is not None:
                        table = steps_table(prime, size, steps)
                        self.assert_same(is_opened(prime, row, table), True)
                        self.check_steps(prime, size, table, steps)
                        self.check_steps(prime, size, table, x_steps(prime, size, table))
                        if size == 2:
                            self.assert_same(pair_form(prime, table), x_form(prime, table))
            self.assertGreater(min(told), 0)

    def test_tables_of_steps_fill_their_rows(self):
        for prime in PRIMES:
            source = random.Random(prime + 5)
            for size in (2, 3, 4):
                for _ in range(6):
                    table = steps_table(prime, size, drawn_steps(source, prime, size, 5))
                    self.assert_same(is_filled(prime, table[0], table), True)
                    self.assert_same(is_opened(prime, table[0], inverse(prime, table)), True)
                    if all(i <= 3 and j <= 3 for poly in table[0] for i, j, _ in poly):
                        self.assertIsNotNone(ones(prime, table[0]))
                    self.assert_same(minors(prime, table), (ONE,))


class OneOrAZeroTest(JudgingCase):

    def test_drawn(self):
        for prime in PRIMES:
            source = random.Random(prime + 6)
            told = [0, 0]
            for size in (2, 3, 4):
                for _ in range(25):
                    row = drawn_low_row(source, prime, size, source.choice((1, 2, 4)))
                    spot = common_spot(prime, row)
                    found = filled(prime, row)
                    told[found is not None] += 1
                    self.assertEqual(found is None, spot is not None)
                    self.assertEqual(found is None, rest_size(prime, row) != 0)
                    if spot is not None:
                        self.assert_same(is_spot(prime, row, spot), True)
                    else:
                        self.assert_same(are_ones(prime, row, columns_of(inverse(prime, found))[0]), True)
            self.assertGreater(min(told), 10)


if __name__ == "__main__":
    unittest.main()
