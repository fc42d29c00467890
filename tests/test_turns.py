"""Point 12: rowsfilled/turns.py."""

import unittest

from rowsfilled.errors import BadPoly, BadPolys, BadPrime, BadTurn
from rowsfilled.turns import is_plain, made_plain, turned, turned_about
from tests.judging import JudgingCase
from tests.reference import is_plain_slowly, product, put_slowly, summed
from tests.samples import NO_PRIMES, ONE, PRIMES, STRANGE, WIDE, X, Y, no_polys, nested, some_polys

TURNS = [("swap",)] + [(word, m) for word in ("slide", "back") for m in range(1, 10)]
TRIED = [None, ("swap",), ("slide", 1), ("slide", 2), ("slide", 3), ("slide", 4)]

NO_TURNS = STRANGE + [
    (), [], {}, 0, 1, ["swap"], ["slide", 1], ["back", 1], ("swap", 1), ("swap", None), ("swap", "swap"), ("slide",),
    ("back",), ("slide", 0), ("slide", 10), ("slide", -1), ("slide", True), ("slide", False), ("slide", None),
    ("slide", "1"), ("slide", [1]), ("slide", (1,)), ("slide", WIDE), ("back", 0), ("back", 10), ("back", True),
    ("back", -WIDE), ("slide", 1, 1), ("back", 1, 2), ("Swap",), ("turn", 1), ("", 1), (1, "slide"), (None, 1),
    (("swap",),), ("s", "w", "a", "p"), {"slide": 1}, ("slide", nested("dict", 79)), (nested("tuple", 79), 1),
    (["slide"], 1), (b"swap",), "swap", ("swap",) * 2,
]


def turned_slowly(prime, poly, turn):
    if turn is None:
        return poly
    if turn == ("swap",):
        return put_slowly(prime, poly, Y, X)
    sign = 1 if turn[0] == "slide" else prime - 1
    return put_slowly(prime, poly, ((0, turn[1], sign), (1, 0, 1)), Y)


class TurnedTest(JudgingCase):

    def test_by_hand(self):
        poly = ((1, 0, 1), (1, 1, 1))
        self.assert_same(turned(7, poly, ("swap",)), ((0, 1, 1), (1, 1, 1)))
        self.assert_same(turned(7, poly, ("slide", 1)), ((0, 1, 1), (0, 2, 1), (1, 0, 1), (1, 1, 1)))
        self.assert_same(turned(7, poly, ("back", 1)), ((0, 1, 6), (0, 2, 6), (1, 0, 1), (1, 1, 1)))
        self.assert_same(turned(7, X, ("slide", 9)), ((0, 9, 1), (1, 0, 1)))
        self.assert_same(turned(7, ((0, 5, 1), (1, 0, 1)), ("back", 5)), X)
        self.assert_same(turned(7, Y, ("slide", 3)), Y)
        self.assert_same(turned(7, (), ("slide", 3)), ())
        self.assert_same(turned(7, ((0, 0, 4),), ("back", 3)), ((0, 0, 4),))

    def test_against_the_slow_way(self):
        for prime in PRIMES:
            for poly in some_polys(prime, 20, 4):
                for turn in TURNS:
                    self.assert_same(turned(prime, poly, turn), turned_slowly(prime, poly, turn))

    def test_there_and_back(self):
        for prime in PRIMES:
            for poly in some_polys(prime, 20, 9, seed=2):
                for turn in TURNS:
                    there = turned(prime, poly, turn)
                    self.assert_same(turned(prime, there, turned_about(turn)), poly)

    def test_sums_products_and_numbers(self):
        for prime in PRIMES:
            polys = some_polys(prime, 12, 3, seed=3)
            for turn in TURNS[::3]:
                for one in polys:
                    first = turned(prime, one, turn)
                    is_number = all(i == 0 and j == 0 for i, j, _ in one)
                    self.assertEqual(all(i == 0 and j == 0 for i, j, _ in first), is_number)
                    for other in polys:
                        second = turned(prime, other, turn)
                        self.assert_same(turned(prime, summed(prime, one, other), turn), summed(prime, first, second))
                        both = product(prime, one, other)
                        self.assert_same(turned(prime, both, turn), product(prime, first, second))

    def test_limit(self):
        self.assert_same(turned(3, ((999, 0, 1),), ("swap",)), ((0, 999, 1),))
        self.assert_same(turned(3, ((111, 0, 1),), ("slide", 9))[0], (0, 999, 1))
        self.assert_too_many(999, turned, 3, ((112, 0, 1),), ("slide", 9))
        self.assert_too_many(999, turned, 3, ((112, 0, 1),), ("back", 9))
        self.assert_same(turned(3, ((0, 999, 2),), ("slide", 9)), ((0, 999, 2),))
        self.assert_too_many(999, turned, 3, ((1, 999, 2),), ("slide", 1))
        self.assert_same(turned(3, ((1, 998, 2),), ("slide", 1)), ((0, 999, 2), (1, 998, 2)))
        self.assert_too_many(999, turned, 7, ((999, 999, 1),), ("back", 9))

    def test_powers_on_the_way_do_not_count(self):
        for prime in PRIMES:
            # (x - y ** 5) * y ** 994, slid by 5, is x * y ** 994.
            poly = ((0, 999, prime - 1), (1, 994, 1))
            self.assert_same(turned(prime, poly, ("slide", 5)), ((1, 994, 1),))
            # x * (x - y ** 9) * y ** 990, slid by 9: the shares on the way have y ** 1008.
            poly = ((1, 999, prime - 1), (2, 990, 1))
            self.assert_same(turned(prime, poly, ("slide", 9)), ((1, 999, 1), (2, 990, 1)))

    def test_judged(self):
        for prime in PRIMES:
            bads = [(BadPrime, NO_PRIMES), (BadPoly, no_polys(prime)), (BadTurn, NO_TURNS)]
            self.assert_judged(turned, ("prime", "poly", "turn"), (prime, ((1, 1, 1),), ("slide", 2)), bads)
        self.assert_refused(BadTurn, turned, 2, ((999, 999, 1),), ("slide", 10))
        self.assert_refused(BadTurn, turned, 2, (), None)


class TurnedAboutTest(JudgingCase):

    def test_each_turn(self):
        self.assert_same(turned_about(("swap",)), ("swap",))
        for m in range(1, 10):
            self.assert_same(turned_about(("slide", m)), ("back", m))
            self.assert_same(turned_about(("back", m)), ("slide", m))

    def test_judged(self):
        self.assert_judged(turned_about, ("turn",), (("slide", 2),), [(BadTurn, NO_TURNS)])


class IsPlainTest(JudgingCase):

    def test_by_hand(self):
        self.assert_same(is_plain(2, ((1, 0, 1), (1, 1, 1))), False)
        self.assert_same(is_plain(2, ((0, 1, 1), (1, 1, 1))), False)
        self.assert_same(is_plain(2, ((0, 1, 1), (0, 2, 1), (1, 0, 1), (1, 1, 1))), True)

    def test_edges(self):
        self.assert_same(is_plain(3, ()), False)
        self.assert_same(is_plain(3, ONE), True)
        self.assert_same(is_plain(3, ((0, 0, 2),)), True)
        self.assert_same(is_plain(3, X), False)
        self.assert_same(is_plain(3, ((0, 0, 1), (1, 0, 1))), False)
        self.assert_same(is_plain(3, Y), True)
        self.assert_same(is_plain(3, ((0, 0, 1), (0, 1, 2), (999, 0, 1))), True)
        self.assert_same(is_plain(3, ((0, 1, 2), (1, 1, 1))), False)
        self.assert_same(is_plain(3, ((0, 999, 2), (999, 998, 1))), True)
        self.assert_same(is_plain(3, ((0, 998, 2), (999, 999, 1))), False)

    def test_against_the_slow_way(self):
        for prime in PRIMES:
            for poly in some_polys(prime, 200, 3, most_terms=4):
                self.assert_same(is_plain(prime, poly), is_plain_slowly(poly))

    def test_judged(self):
        for prime in PRIMES:
            bads = [(BadPrime, NO_PRIMES), (BadPoly, no_polys(prime))]
            self.assert_judged(is_plain, ("prime", "poly"), (prime, Y), bads)


class MadePlainTest(JudgingCase):

    def expected(self, prime, polys):
        for turn in TRIED:
            for k, poly in enumerate(polys):
                if is_plain_slowly(turned_slowly(prime, poly, turn)):
                    return turn, k
        return None

    def test_by_hand(self):
        self.assert_same(made_plain(2, [((1, 0, 1), (1, 1, 1))]), (("slide", 1), 0))
        self.assert_same(made_plain(2, [Y]), (None, 0))
        self.assert_same(made_plain(2, [(), X]), (("swap",), 1))
        self.assert_same(made_plain(2, [X, Y]), (None, 1))
        self.assert_same(made_plain(2, [X, ONE, Y]), (None, 1))
        self.assert_same(made_plain(2, [((1, 1, 1),), ((1, 2, 1), (2, 1, 1))]), (("slide", 1), 0))
        self.assert_same(made_plain(2, [((1, 2, 1), (2, 1, 1)), (), ((1, 1, 1),)]), (("slide", 1), 2))

    def test_slide_by_two(self):
        # x * y * (x - y): no turn, swapping and sliding by 1 leave the highest power of y with x.
        self.assert_same(made_plain(2, [((1, 2, 1), (2, 1, 1))]), (("slide", 2), 0))
        self.assert_same(made_plain(3, [(), ((1, 2, 2), (2, 1, 1))]), (("slide", 2), 1))
        self.assert_same(made_plain(7, [((1, 3, 1), (2, 2, 3), (3, 1, 3))]), (("slide", 2), 0))

    def test_all_with_powers_up_to_two(self):
        # With powers up to 3 sliding by 3 or 4 is never the first turn that helps: where sliding by 2 fails, the
        # greatest 2 i + j belongs to two terms, x ** i * y ** j and x ** (i + 1) * y ** (j - 2), and then
        # swapping helps for j = 2, sliding by 1 for j = 3.
        keys = [(i, j) for i in range(3) for j in range(3)]
        for chosen in range(1, 2 ** len(keys)):
            poly = tuple((i, j, 1) for k, (i, j) in enumerate(keys) if chosen >> k & 1)
            self.assert_same(made_plain(2, (poly,)), self.expected(2, (poly,)))

    def test_against_the_slow_way(self):
        for prime in PRIMES:
            polys = some_polys(prime, 120, 3, most_terms=8)[4:]
            hard = [poly for poly in polys if not is_plain_slowly(poly)]
            for many in (1, 2, 3):
                for k in range(0, len(hard) - many, many):
                    several = hard[k:k + many]
                    self.assert_same(made_plain(prime, several), self.expected(prime, several))

    def test_list_and_tuple(self):
        for prime in PRIMES:
            for several in ([X], [(), X, Y], [((1, 1, 1),)], [((1, 2, prime - 1), (2, 1, 1)), ()]):
                kept = list(several)
                self.assert_same(made_plain(prime, several), made_plain(prime, tuple(several)))
                self.assertEqual(several, kept)

    def test_limit(self):
        for poly in (((3, 0, 1),), ((0, 3, 1),), ((0, 3, 1), (3, 3, 1))):
            self.assertIsNotNone(made_plain(2, [poly]))
        for poly in (((4, 0, 1),), ((0, 4, 1),), ((0, 0, 1), (999, 999, 1))):
            self.assert_too_many(3, made_plain, 2, [poly])
            self.assert_too_many(3, made_plain, 2, (ONE, (), poly))
            self.assert_too_many(3, made_plain, 2, (poly, ONE))
        self.assert_refused(BadPolys, made_plain, 2, [((4, 0, 1),), None])
        self.assert_refused(BadPrime, made_plain, 4, [((4, 0, 1),)])

    def test_judged(self):
        for prime in PRIMES:
            wrong = STRANGE + [0, 1, {}, {X: Y}, [], (), [()], ((),), [(), ()], ((), (), ())]
            wrong += [[thing] for thing in no_polys(prime)] + [(ONE, thing) for thing in no_polys(prime)]
            wrong += [X, [(0, 0, 1)], [[(0, 0, 1)]], [[]], "x", ["x"]]
            bads = [(BadPrime, NO_PRIMES), (BadPolys, wrong)]
            self.assert_judged(made_plain, ("prime", "polys"), (prime, [X, ((1, 1, 1),)]), bads)


if __name__ == "__main__":
    unittest.main()
