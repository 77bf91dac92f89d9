"""The refusals and how they stand to one another."""

import unittest

from planwell import errors
from planwell.fractions import fraction, over
from planwell.sums import multiplied, single
from planwell.words import words

NAMES = ["BadFraction", "NotLinear", "BadText", "BadName", "BadTable", "BadEnds", "BadGoal", "TooMany"]


class ErrorClasses(unittest.TestCase):
    def test_plan_error_stands_straight_under_value_error(self):
        self.assertEqual(errors.PlanError.__bases__, (ValueError,))

    def test_all_eight_stand_straight_under_plan_error(self):
        for name in NAMES:
            self.assertEqual(getattr(errors, name).__bases__, (errors.PlanError,), name)

    def test_all_eight_are_classes_of_their_own(self):
        classes = [getattr(errors, name) for name in NAMES]
        for one in classes:
            for other in classes:
                self.assertEqual(issubclass(one, other), one is other)

    def test_each_can_be_raised_with_words_and_without(self):
        for name in NAMES + ["PlanError"]:
            refusal = getattr(errors, name)
            self.assertRaises(refusal, self.throw, refusal())
            self.assertRaises(refusal, self.throw, refusal("some words"))

    def throw(self, error):
        raise error


class Refusals(unittest.TestCase):
    def assert_refused(self, name, ask, *things):
        with self.assertRaises(errors.PlanError) as caught:
            ask(*things)
        error = caught.exception
        self.assertIsInstance(error, ValueError)
        held = [other for other in NAMES if isinstance(error, getattr(errors, other))]
        self.assertEqual(held, [name])

    def test_each_refusal_is_of_its_own_class_alone(self):
        self.assert_refused("BadFraction", fraction, 1, 0)
        self.assert_refused("BadFraction", over, (1, 2), (0, 1))
        self.assert_refused("NotLinear", multiplied, single(0), single(1))
        self.assert_refused("BadText", words, "A")
        self.assert_refused("BadText", words, None)
        self.assert_refused("BadText", words, " " * 6001)
        self.assert_refused("BadText", words, "abcdefghi")
        self.assert_refused("BadText", words, "1234567890")
        self.assert_refused("BadText", words, "01")


if __name__ == "__main__":
    unittest.main()
