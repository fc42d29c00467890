"""Point 70: rowsfilled/texts.py."""

import itertools
import random
import unittest

from rowsfilled.errors import BadGrid, BadPoly, BadPrime, BadRow, BadSize, BadSteps, BadText
from rowsfilled.texts import grid_text, poly_text, read_grid, read_poly, read_row, read_steps, row_text, steps_text
from tests.judging import JudgingCase
from tests.samples import (
    NO_PRIMES, NO_SIZES, ONE, PRIMES, STRANGE, X, Y, drawn_poly, drawn_row, drawn_steps, nested, no_polys, no_rows,
    no_step_lists,
)

POLY = ((0, 0, 3), (1, 0, 1), (2, 1, 5))
NO_TEXTS = [value for value in STRANGE if not isinstance(value, str)] + [0, 1, 7, (), [], {}, ["x"], ("x",), b"x", POLY]
SIGNS = "0123456789xy^ +,;:-*a"


def term_slowly(i, j, c):
    letters = "".join(letter if power == 1 else f"{letter}^{power}" for letter, power in (("x", i), ("y", j)) if power)
    return letters if c == 1 and letters else f"{c}{letters}"


def text_slowly(poly):
    return " + ".join(term_slowly(*term) for term in reversed(poly)) or "0"


def beginnings(prime):
    """For each beginning of the text of a term the least powers of such a term; for each whole text its powers.

    Of the powers of a term here at least one is below 13.
    """
    least, whole = {}, {}
    for i, j in itertools.product(range(1000), repeat=2):
        if min(i, j) < 13:
            for c in range(1, prime):
                text = term_slowly(i, j, c)
                whole[text] = (i, j)
                for n in range(len(text) + 1):
                    # The powers ascend: what is there already is less.
                    least.setdefault(text[:n], (i, j))
    return least, whole


def is_begun_slowly(told, start):
    """Whether the text of some poly begins so."""
    least, whole = told
    if start in ("", "0"):
        return True
    parts = start.split(" + ")
    bound = (1000, 0)
    for part in parts[:-1]:
        if part not in whole or not (0, 0) < whole[part] < bound:
            return False
        bound = whole[part]
    last = parts[-1]
    for joint in (" +", " "):
        if last.endswith(joint) and last[:-len(joint)] in whole:
            return (0, 0) < whole[last[:-len(joint)]] < bound
    return last in least and least[last] < bound


class TextCase(JudgingCase):

    def assert_bad_text(self, at, function, *arguments):
        error = self.assert_refused(BadText, function, *arguments)
        self.assert_same(error.at, at)


class PolyTextTest(TextCase):

    def test_by_hand(self):
        self.assert_same(poly_text(7, POLY), "5x^2y + x + 3")
        self.assert_same(read_poly(7, "5x^2y + x + 3"), POLY)
        self.assert_bad_text(11, read_poly, 7, "5x^2y + x^2y")

    def test_terms(self):
        for term, text in [
            ((0, 0, 1), "1"), ((0, 0, 6), "6"), ((1, 0, 1), "x"), ((0, 1, 1), "y"), ((1, 1, 1), "xy"),
            ((1, 0, 2), "2x"), ((0, 1, 3), "3y"), ((2, 0, 1), "x^2"), ((0, 2, 1), "y^2"), ((2, 2, 4), "4x^2y^2"),
            ((10, 1, 1), "x^10y"),
            ((1, 10, 5), "5xy^10"), ((999, 999, 6), "6x^999y^999"), ((100, 0, 1), "x^100"), ((0, 999, 1), "y^999"),
        ]:
            self.assert_same(poly_text(7, (term,)), text)
            self.assert_same(read_poly(7, text), (term,))
        self.assert_same(poly_text(2, ()), "0")
        self.assert_same(read_poly(2, "0"), ())

    def test_there_and_back(self):
        powers = (0, 1, 2, 10, 999)
        for prime in PRIMES:
            source = random.Random(prime)
            for i, j in itertools.product(powers, repeat=2):
                for c in range(1, prime):
                    self.check(prime, ((i, j, c),))
            for _ in range(60):
                lot = source.sample(list(itertools.product(powers, repeat=2)), source.randint(0, 6))
                self.check(prime, tuple((i, j, source.randint(1, prime - 1)) for i, j in sorted(lot)))
                self.check(prime, drawn_poly(source, prime, source.choice((1, 3, 40, 999)), 8))

    def check(self, prime, poly):
        text = poly_text(prime, poly)
        self.assert_same(text, text_slowly(poly))
        self.assert_same(read_poly(prime, text), poly)

    def test_long_poly(self):
        poly = tuple((i, j, 1) for i in range(30) for j in range(30))
        self.check(2, poly)
        text = poly_text(2, poly)
        self.assert_bad_text(len(text), read_poly, 2, text + " + 1")

    def test_one_text_each(self):
        numbers = itertools.product(range(3), repeat=4)
        polys = [tuple((k // 2, k % 2, c) for k, c in enumerate(lot) if c) for lot in numbers]
        self.assertEqual(len(set(poly_text(3, poly) for poly in polys)), 81)

    def test_where_it_breaks_off(self):
        for text, at in [
            ("", 0), (" ", 0), ("+", 0), ("-x", 0), ("z", 0), ("X", 0), ("*", 0), ("^2", 0), ("(x)", 0),
            # Signs more, less and otherwise.
            ("x ", 2), ("x +", 3), ("x + ", 4), ("x+ y", 1), ("x  + y", 2), ("x +y", 3), ("x +  y", 4), ("x + y ", 6),
            ("x - y", 2), ("x * y", 2), ("x y", 2), (" x", 0), ("x\n", 1), ("x + y + ", 8), ("x + + y", 4),
            # Figures 0 and 1, and figures of the prime and above it.
            ("00", 1), ("0x", 1), ("0 + x", 1), ("x + 0", 4), ("01", 1), ("1x", 1), ("x + 1y", 5), ("1 + x", 1),
            ("11", 1), ("7", 0), ("8x", 0), ("9", 0), ("66x", 1), ("x + 7", 4), ("x6", 1), ("2 + 1", 1), ("6 ", 1),
            # Powers.
            ("x^", 2), ("x^1", 3), ("x^0", 2), ("x^01", 2), ("x^1000", 5), ("x^9999", 5), ("x^-1", 2), ("x^1y", 3),
            ("x^y", 2), ("x^2^2", 3), ("x^ 2", 2), ("xx", 1), ("x2", 1), ("yx", 1), ("y^", 2), ("y^1", 3), ("y^0", 2),
            ("y^1000", 5), ("xy^", 3), ("x^2y^1", 6), ("yy", 1), ("xyx", 2), ("x^10y^100y", 9), ("x^1 + y", 3),
            # Terms in another order, or twice.
            ("x + x", 4), ("y + x", 4), ("x + x^2", 4), ("y + y", 4), ("y + y^2", 4), ("y + 2y", 5), ("x + 2x", 5),
            ("xy + xy", 6), ("xy + x^2", 6), ("xy + xy^2", 6), ("x^2 + x^2", 7), ("x^2 + x^3", 7), ("x^3 + x^20", 9),
            ("x^20 + x^3", None), ("x^15 + x^1", 10), ("x^15 + x^16", 10), ("x^5 + x^1", 8), ("x^10 + x^1", 9),
            ("x^2y^5 + x^2y^1", 14), ("x^2y^15 + x^2y^1", 16), ("x^2y^15 + x^2y^15", 16), ("x^2 + y^999", None),
            ("x^2y + x^2y", 10), ("x^2y + x^2", None), ("x + y^999 + y^99", None), ("x + y^99 + y^999", 14),
            ("3 + 3", 1),
        ]:
            with self.subTest(text=text):
                if at is None:
                    read_poly(7, text)
                else:
                    self.assert_bad_text(at, read_poly, 7, text)

    def test_figures_of_each_prime(self):
        for prime in PRIMES:
            for c in range(10):
                text = f"x^2 + {c}x"
                if 2 <= c < prime:
                    self.assert_same(read_poly(prime, text), ((1, 0, c), (2, 0, 1)))
                else:
                    self.assert_bad_text(7 if c == 1 else 6, read_poly, prime, text)

    def test_signs_of_other_kinds(self):
        # Figures and letters of other scripts, and a line's end, are none.
        for text, at in [("\u0663", 0), ("x^\u0663", 2), ("x\u00b2", 1), ("\uff58", 0), ("x^2\u0660", 3), ("x^2\n", 3),
                         ("\u0661x", 0), ("x +\u00a0y", 3), ("5x^2y\t+ x", 5)]:
            self.assert_bad_text(at, read_poly, 7, text)

    def test_against_all_beginnings(self):
        for prime in (2, 3):
            source = random.Random(prime)
            told = beginnings(prime)
            wrong = 0
            for _ in range(300):
                text = text_slowly(drawn_poly(source, prime, source.choice((1, 2, 3, 12)), 3))
                at = source.randint(0, len(text))
                sign = source.choice(SIGNS)
                for changed in [text[:at] + sign + text[at:], text[:at] + text[at + 1:], text[:at], text + " + " + text,
                                text[:at] + sign + text[at + 1:], text + " + " + text[:at]]:
                    wrong += self.check_against(prime, told, changed)
            self.assertGreater(wrong, 500)

    def check_against(self, prime, told, text):
        """Whether the text is no poly's text."""
        try:
            poly = read_poly(prime, text)
        except BadText as error:
            begun = [n for n in range(len(text) + 1) if is_begun_slowly(told, text[:n])]
            self.assert_same(error.at, max(begun))
            return True
        self.assertEqual(text_slowly(poly), text)
        return False

    def test_judged(self):
        for prime in PRIMES:
            bads = [(BadPrime, NO_PRIMES), (BadPoly, no_polys(prime))]
            self.assert_judged(poly_text, ("prime", "poly"), (prime, X), bads)
            bads = [(BadPrime, NO_PRIMES), (BadText, NO_TEXTS + ["", "z", "x^1"])]
            self.assert_judged(read_poly, ("prime", "text"), (prime, "x"), bads)
            for value in NO_TEXTS:
                self.assert_bad_text(0, read_poly, prime, value)
                self.assert_bad_text(0, read_row, prime, value)
                self.assert_bad_text(0, read_grid, prime, value)
                self.assert_bad_text(0, read_steps, prime, 2, value)


class RowTextTest(TextCase):

    def test_by_hand(self):
        self.assert_same(row_text(7, (POLY, (), X)), "5x^2y + x + 3, 0, x")
        self.assert_same(read_row(7, "5x^2y + x + 3, 0, x"), (POLY, (), X))
        self.assert_same(grid_text(2, ((X, ONE), ((), Y))), "x, 1; 0, y")
        self.assert_same(read_grid(2, "x, 1; 0, y"), ((X, ONE), ((), Y)))

    def test_there_and_back(self):
        for prime in PRIMES:
            source = random.Random(prime)
            for size in (2, 3, 4):
                for _ in range(10):
                    row = drawn_row(source, prime, size, source.choice((1, 3, 999)))
                    text = row_text(prime, row)
                    self.assert_same(text, ", ".join(text_slowly(poly) for poly in row))
                    self.assert_same(read_row(prime, text), row)
                for many in (1, 2, 3, 4):
                    grid = tuple(drawn_row(source, prime, size) for _ in range(many))
                    text = grid_text(prime, grid)
                    self.assert_same(text, "; ".join(row_text(prime, row) for row in grid))
                    self.assert_same(read_grid(prime, text), grid)

    def test_rows_that_cannot_be_read(self):
        for text, at in [
            ("", 0), ("x", 1), ("0", 1), ("x, y, x, y, x", 5), ("x, y, x, y, x, x", 6), ("z, x", 0), ("x, z", 1),
            ("x, y, ", 2), (", x", 0), ("x,y", 0), ("x ,y", 0), ("x,  y", 1), ("x, y,x", 1), ("x, y, 1x", 2),
            ("x, y, x, y, 1x", 4), ("1x, y, x, y, x", 0), ("x; y", 0), ("x, y; x, y", 1), ("x, y ", 1), ("x, x + x", 1),
            ("x^1", 0), ("x, , y", 1), ("none", 0), ("x, y, x, y, x, 1x, x", 5),
        ]:
            with self.subTest(text=text):
                self.assert_bad_text(at, read_row, 7, text)

    def test_grids_that_cannot_be_read(self):
        for text, at in [
            ("", 0), ("x", 0), ("x, y, x, y, x", 0), ("x, y; x", 1), ("x, y; x, y, x", 1), ("x, y, x; x, y", 1),
            ("x, y; x, y; z, x", 2), ("x, y; ", 1), ("; x, y", 0), ("x, y;x, y", 0),
            ("x, y; x, y; x, y; x, y; x, y", 5),
            ("x, y; x, y; x, y; x, y; x, y; x, y", 6), ("x, y; x, y; x, y; x, y; x", 4), ("z; x, y", 0),
            ("x, 1x; x, y", 0),
            ("x, y, x; x, y, x; x, y", 2), ("x, y; x, y;  x, y", 2), ("none", 0), ("x, y; x; x, y", 1),
        ]:
            with self.subTest(text=text):
                self.assert_bad_text(at, read_grid, 7, text)
        # More rows than polys in a row are a grid here.
        self.assert_same(read_grid(7, "x, y; x, y; x, y"), ((X, Y),) * 3)
        self.assert_same(read_grid(7, "x, y; x, y; x, y; x, y"), ((X, Y),) * 4)

    def no_text_grids(self, prime):
        found = list(STRANGE) + [(), [], {}, ((),), ((), ()), ((ONE,),), (ONE, X), (X, Y, ONE), ONE, ((X, Y),) * 5]
        for many in range(1, 7):
            for size in range(6):
                row = (ONE, X, Y, (), ONE)[:size]
                grid = (row,) * many
                found += [list(grid), tuple([list(row)] * many), dict(enumerate(grid))]
                if size not in (2, 3, 4) or many > 4:
                    found.append(grid)
                elif many > 1:
                    found += [grid[:-1] + (row[:-1],), (row + (X,),) + grid[1:], grid[:-1] + (None,)]
        for bad in no_polys(prime)[::5] + [True, [], None, nested("tuple", 78), nested("list", 78)]:
            found += [((bad, X),), ((X, Y), (Y, bad)), ((X, bad, Y),) * 4]
        return found

    def test_judged(self):
        for prime in PRIMES:
            bads = [(BadPrime, NO_PRIMES), (BadRow, no_rows(prime))]
            self.assert_judged(row_text, ("prime", "row"), (prime, (X, ())), bads)
            for grid in [((X, ()),), ((X, ()),) * 4, ((X, Y, ()),) * 2]:
                bads = [(BadPrime, NO_PRIMES), (BadGrid, self.no_text_grids(prime))]
                self.assert_judged(grid_text, ("prime", "grid"), (prime, grid), bads)
            bads = [(BadPrime, NO_PRIMES), (BadText, NO_TEXTS + ["x", ""])]
            self.assert_judged(read_row, ("prime", "text"), (prime, "x, y"), bads)
            self.assert_judged(read_grid, ("prime", "text"), (prime, "x, y; y, x"), bads)


class StepsTextTest(TextCase):

    def test_by_hand(self):
        self.assert_same(steps_text(7, 2, [(0, 1, X), (1, 0, POLY)]), "0 1: x; 1 0: 5x^2y + x + 3")
        self.assert_same(read_steps(7, 2, "0 1: x; 1 0: 5x^2y + x + 3"), [(0, 1, X), (1, 0, POLY)])
        self.assert_same(steps_text(2, 3, []), "none")
        self.assert_same(steps_text(2, 3, ()), "none")
        self.assert_same(read_steps(2, 3, "none"), [])
        self.assert_same(steps_text(2, 4, [(3, 2, ())]), "3 2: 0")

    def test_there_and_back(self):
        for prime in PRIMES:
            source = random.Random(prime)
            for size in (2, 3, 4):
                for many in (0, 1, 2, 5, 20):
                    steps = drawn_steps(source, prime, size, many, source.choice((1, 3, 999)), 3)
                    text = steps_text(prime, size, steps)
                    if steps:
                        self.assert_same(text, "; ".join(f"{i} {j}: {text_slowly(poly)}" for i, j, poly in steps))
                    self.assert_same(read_steps(prime, size, text), steps)
                    self.assert_same(steps_text(prime, size, tuple(steps)), text)

    def test_steps_that_cannot_be_read(self):
        for text, at in [
            ("", 0), ("0 1", 0), ("0 1:", 0), ("0 1: ", 0), ("0 1:x", 0), ("0 1 : x", 0), ("01: x", 0), ("0  1: x", 0),
            ("0 0: x", 0), ("1 1: x", 0), ("0 2: x", 0), ("2 0: x", 0), ("3 1: x", 0), ("-1 0: x", 0), ("0 1: 1x", 0),
            ("00 1: x", 0), ("0 01: x", 0), (" 0 1: x", 0), ("0 1: x ", 0), ("0 1: x;1 0: y", 0), ("0 1: x; ", 1),
            ("0 1: x; 1 0: y; 0 2: x", 2), ("0 1: x; none", 1), ("none; 0 1: x", 0), ("none ", 0), ("None", 0),
            ("non", 0),
            ("0 1: x; 1 0: y; 0 1: x; 0 1: z", 3), ("x", 0), ("0", 0), ("0 1: x, y", 0), ("0 1; x", 0), ("; 0 1: x", 0),
            ("0 1: x; 1 0: x + x", 1), ("\u0660 1: x", 0), ("0 \u0661: x", 0), ("x 1: x", 0), ("0\t1: x", 0),
            ("0 1, x", 0), ("0 1--x", 0), ("0 1:\tx", 0), ("0 1. x", 0), ("0-1: x", 0),
        ]:
            with self.subTest(text=text):
                self.assert_bad_text(at, read_steps, 7, 2, text)

    def test_of_another_size(self):
        for size in (2, 3, 4):
            for i, j in itertools.product(range(6), repeat=2):
                text = f"0 1: x; {i} {j}: y"
                if i != j and i < size and j < size:
                    self.assert_same(read_steps(5, size, text), [(0, 1, X), (i, j, Y)])
                else:
                    self.assert_bad_text(1, read_steps, 5, size, text)

    def test_new_lists_each_time(self):
        read_steps(2, 2, "none").append(1)
        self.assert_same(read_steps(2, 2, "none"), [])
        read_steps(2, 2, "0 1: x").append(1)
        self.assert_same(read_steps(2, 2, "0 1: x"), [(0, 1, X)])

    def test_judged(self):
        for prime in PRIMES:
            for size in (2, 3, 4):
                bads = [(BadPrime, NO_PRIMES), (BadSize, NO_SIZES), (BadSteps, no_step_lists(prime, size))]
                self.assert_judged(steps_text, ("prime", "size", "steps"), (prime, size, [(0, 1, X)]), bads)
                bads = [(BadPrime, NO_PRIMES), (BadSize, NO_SIZES), (BadText, NO_TEXTS + ["", "0 0: x"])]
                self.assert_judged(read_steps, ("prime", "size", "text"), (prime, size, "0 1: x"), bads)


if __name__ == "__main__":
    unittest.main()
