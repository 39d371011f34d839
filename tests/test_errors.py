"""The refusals (point 3)."""

import unittest

from leanfar import errors
from tests.asking import REFUSALS


class Errors(unittest.TestCase):

    def test_lean_error_is_a_value_error(self):
        self.assertEqual(errors.LeanError.__bases__, (ValueError,))

    def test_each_stands_directly_under_lean_error(self):
        for name in REFUSALS:
            self.assertEqual(getattr(errors, name).__bases__, (errors.LeanError,), name)

    def test_there_are_just_eighteen(self):
        found = [name for name, kind in vars(errors).items() if isinstance(kind, type)]
        self.assertEqual(sorted(found), sorted(REFUSALS + ["LeanError"]))
        self.assertEqual(len(REFUSALS), 18)

    def test_each_is_defined_in_its_file(self):
        for name in REFUSALS + ["LeanError"]:
            self.assertEqual(getattr(errors, name).__module__, "leanfar.errors")
            self.assertEqual(getattr(errors, name).__name__, name)

    def test_each_is_made_with_one_text_and_tells_it(self):
        for name in REFUSALS + ["LeanError"]:
            for text in ["why not", "", "two\nlines", "'quoted'"]:
                self.assertEqual(str(getattr(errors, name)(text)), text)

    def test_none_is_caught_as_another(self):
        for name in REFUSALS:
            refusal = getattr(errors, name)("no")
            caught = [other for other in REFUSALS if isinstance(refusal, getattr(errors, other))]
            self.assertEqual(caught, [name])
