"""Point 3 and the interface: the classes of errors."""

import inspect
import unittest

from rowsfilled import errors
from tests.samples import STRANGE, WIDE

PLAIN = (
    "Apart BadBasis BadColumn BadComing BadFold BadForm BadGoals BadGrid BadLetter BadMixing BadModulus BadNumber "
    "BadOther BadPair BadPlace BadPoly BadPolys BadPower BadPrime BadRow BadSize BadStep BadSteps BadStrip BadTable "
    "BadTelling BadTurn Lost NoLetter NotOnes NotPlain NotSolved NotWhole"
).split()
TOLD = [("BadText", "at"), ("TooMany", "most")]
HELD = STRANGE + [0, 1, 5, 999, -3, 10 ** 5000, "a text", [1, [2]], {"a": [1]}, (), ((0, 0, 1),), {}, []]


class ErrorsTest(unittest.TestCase):

    def test_all_classes_stand_here_and_no_others(self):
        found = [name for name, thing in vars(errors).items() if inspect.isclass(thing)]
        self.assertEqual(sorted(found), sorted(["FillError"] + PLAIN + [name for name, _ in TOLD]))
        for name in found:
            self.assertEqual(getattr(errors, name).__module__, "rowsfilled.errors")

    def test_each_is_directly_below_fill_error(self):
        self.assertEqual(errors.FillError.__bases__, (ValueError,))
        for name in PLAIN + [name for name, _ in TOLD]:
            self.assertEqual(getattr(errors, name).__bases__, (errors.FillError,), name)

    def test_made_of_any_text_and_caught(self):
        for name in ["FillError"] + PLAIN:
            for text in ("", "a text", "{} \\ \n", "x" * 5000):
                with self.subTest(name=name):
                    self.assertEqual(str(getattr(errors, name)(text)), text)
                    self.check_caught(name, lambda: getattr(errors, name)(text))

    def test_told_ones_caught(self):
        self.check_caught("BadText", lambda: errors.BadText(4))
        self.check_caught("TooMany", lambda: errors.TooMany(999))
        self.check_caught("BadText", lambda: errors.BadText(at=4))
        self.check_caught("TooMany", lambda: errors.TooMany(most=999))

    def check_caught(self, name, make):
        for catcher in ["FillError"] + PLAIN + [told for told, _ in TOLD]:
            caught = False
            try:
                raise make()
            except getattr(errors, catcher):
                caught = True
            except ValueError:
                pass
            self.assertEqual(caught, catcher in (name, "FillError"), (name, catcher))

    def test_attributes_by_position_and_by_name(self):
        for name, attribute in TOLD:
            for value in HELD:
                for made in (getattr(errors, name)(value), getattr(errors, name)(**{attribute: value})):
                    self.assertIs(getattr(made, attribute), value)
                    # A number too wide to be written must not keep the error from being shown.
                    self.assertNotEqual(str(made), "")

    def test_attributes_are_demanded(self):
        for name, attribute in TOLD:
            with self.assertRaises(TypeError):
                getattr(errors, name)()
            with self.assertRaises(TypeError):
                getattr(errors, name)(1, 2)
            with self.assertRaises(TypeError):
                getattr(errors, name)(**{"other" + attribute: 1})

    def test_equal_to_nothing_else(self):
        for value in (1, True, None, "3", WIDE, errors.BadText(3)):
            self.assertNotEqual(errors.TooMany(3), value)


if __name__ == "__main__":
    unittest.main()
