"""Tests of what holds for the arguments of every function."""

import copy
import unittest


class JudgingCase(unittest.TestCase):

    def assert_same(self, found, expected):
        """Equal, and of the same kinds at every depth (True is not 1)."""
        self.assertEqual(found, expected)
        self.assertEqual(repr(found), repr(expected))

    def assert_by_name(self, function, names, good):
        """By position and by name, in every sequence, the result is the same, and nothing passed is changed."""
        kept = copy.deepcopy(good)
        by_position = function(*good)
        by_name = function(**dict(zip(names, good)))
        backwards = function(**dict(reversed(list(zip(names, good)))))
        self.assert_same(by_name, by_position)
        self.assert_same(backwards, by_position)
        self.assertEqual(repr(good), repr(kept))

    def assert_refused(self, error, function, *arguments):
        with self.assertRaises(error) as caught:
            function(*arguments)
        self.assertIs(caught.exception.__class__, error)
        return caught.exception

    def assert_too_many(self, most, function, *arguments):
        from rowsfilled.errors import TooMany
        self.assert_same(self.assert_refused(TooMany, function, *arguments).most, most)

    def assert_judged(self, function, names, good, bads):
        """bads has a pair (error, values) or None for each parameter; the first wrong one tells the error."""
        self.assert_by_name(function, names, good)
        for k, bad in enumerate(bads):
            if bad is None:
                continue
            error, values = bad
            for value in values:
                arguments = list(good)
                arguments[k] = value
                with self.subTest(parameter=names[k], value=repr(value)[:80]):
                    self.assert_refused(error, function, *arguments)
                    self.assert_refused(error, lambda: function(**dict(zip(names, arguments))))
            self.assert_first_wins(function, good, bads, k)

    def assert_first_wins(self, function, good, bads, k):
        for m in range(k + 1, len(bads)):
            if bads[m] is None:
                continue
            for first in bads[k][1][:4] + bads[k][1][-4:]:
                for second in bads[m][1][:4] + bads[m][1][-4:]:
                    arguments = list(good)
                    arguments[k] = first
                    arguments[m] = second
                    self.assert_refused(bads[k][0], function, *arguments)
