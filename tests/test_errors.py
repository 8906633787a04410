"""The errors of the interface."""

import unittest

from seedreach import errors
from seedreach.errors import BadRow, BadSeed, BadText, NoPlace, NoRow, ReachError, TooLow

PLAIN = (BadRow, BadSeed, NoRow, NoPlace, BadText)
SIX = PLAIN + (TooLow,)


class Errors(unittest.TestCase):
    def test_any_refusal_is_a_value_error(self):
        self.assertEqual(ReachError.__bases__, (ValueError,))

    def test_each_stands_straight_under_reach_error(self):
        for kind in SIX:
            with self.subTest(kind.__name__):
                self.assertEqual(kind.__bases__, (ReachError,))

    def test_none_takes_another_one(self):
        made = [kind("why") for kind in SIX]
        for kind in SIX:
            self.assertEqual([error.__class__ for error in made if isinstance(error, kind)], [kind])

    def test_each_is_defined_under_errors(self):
        for kind in (ReachError,) + SIX:
            self.assertEqual(kind.__module__, "seedreach.errors")
            self.assertIs(getattr(errors, kind.__name__), kind)

    def test_each_can_be_caught_as_any_refusal(self):
        for kind in SIX:
            with self.subTest(kind.__name__), self.assertRaises(ReachError):
                raise kind("why")

    def test_too_low_has_its_bar(self):
        for bar in (("bar", 0, ""), ("bar", 7, "==/="), ("endless", "", "=/"), ("endless", "=/", "==/")):
            self.assertEqual(TooLow(bar).bar, bar)

    def test_each_too_low_has_a_bar_of_its_own(self):
        first = TooLow(("bar", 1, "="))
        second = TooLow(("bar", 2, "=="))
        self.assertEqual((first.bar, second.bar), (("bar", 1, "="), ("bar", 2, "==")))

    def test_the_others_have_no_bar(self):
        for kind in (ReachError,) + PLAIN:
            self.assertFalse(hasattr(kind("why"), "bar"))


if __name__ == "__main__":
    unittest.main()
