"""What several tests ask alike."""

import unittest

from planwell.errors import PlanError


class Asking(unittest.TestCase):
    def assert_refused(self, kind, ask, *things):
        # The very class: a refusal is none of the other classes.
        with self.assertRaises(PlanError) as caught:
            ask(*things)
        self.assertEqual(type(caught.exception), kind, things)
        self.assertIsInstance(caught.exception, ValueError)
