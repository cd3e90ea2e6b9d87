"""The errors of the interface: what they stand under, how they are made, what they carry."""

import unittest

from stepwhere import errors
from stepwhere.errors import BadBook, BadProgram, BadQuestion, BadText, Fails, Missing, StepwhereError, TooGreat


class TestErrors(unittest.TestCase):

    def test_each_stands_straight_under_its_base(self):
        self.assertEqual(StepwhereError.__bases__, (ValueError,))
        for kind in (BadBook, BadProgram, BadText, TooGreat, BadQuestion):
            self.assertEqual(kind.__bases__, (StepwhereError,))
        self.assertEqual(Fails.__bases__, (RuntimeError,))
        self.assertEqual(Missing.__bases__, (KeyError,))

    def test_each_is_defined_in_errors(self):
        for name in ("StepwhereError", "BadBook", "BadProgram", "BadText", "TooGreat", "BadQuestion",
                     "Fails", "Missing"):
            self.assertEqual(getattr(errors, name).__module__, "stepwhere.errors")

    def test_those_with_a_place_tell_it(self):
        for kind in (BadBook, BadProgram, BadText, TooGreat):
            for place in ((), ("vars",), (0,), (1, (2, 0, 3)), -1, 0, 7):
                self.assertEqual(kind(place).place, place)
                self.assertEqual(kind(place=place).place, place)
                self.assertIn(str(place), str(kind(place)))

    def test_those_with_a_text_tell_it(self):
        for kind in (StepwhereError, BadQuestion):
            self.assertEqual(str(kind("why not")), "why not")

    def test_fails_has_its_word(self):
        self.assertEqual(Fails("unset").word, "unset")
        self.assertEqual(str(Fails("unset")), "unset")

    def test_missing_has_its_name(self):
        self.assertEqual(Missing("p").name, "p")
        thing = object()
        self.assertIs(Missing(thing).name, thing)

    def test_failures_are_no_refusals(self):
        self.assertNotIsInstance(Fails("own"), ValueError)
        self.assertNotIsInstance(Missing("p"), ValueError)


if __name__ == "__main__":
    unittest.main()
