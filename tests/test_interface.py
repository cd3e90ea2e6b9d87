"""The interface: every name where the document lists it, defined there, with its arguments."""

import importlib
import inspect
import unittest

from stepwhere import errors, machine, pieces

FUNCTIONS = {
    "pieces": {"need_book": "thing", "is_book": "thing", "statements_of": "book name", "slots_of": "book name",
               "numbers_of": "book name", "count_by": "book name"},
    "booktexts": {"book_text": "book", "read_book": "text"},
    "rooms": {"under": "manager deed"},
    "programs": {"need_program": "book thing", "slots_in": "book program", "calls_in": "book program"},
    "programtexts": {"program_text": "book program", "read_program": "book text"},
    "play": {"play": "book program", "play_with": "book program one other"},
    "alike": {"are_comparable": "book one other", "are_alike": "book one other", "parting": "book one other",
              "turns_to_part": "book one other", "classes": "book"},
    "reach": {"ends": "book name", "reached": "book name", "noise": "book name", "is_quiet": "book name"},
    "shorter": {"without": "book name way", "exchanged": "book name way", "needless": "book name", "free": "book name",
                "lean": "book name", "put_in": "book name way other"},
}
CLASSES = {
    "errors": {"StepwhereError": "", "BadBook": "", "BadProgram": "", "BadText": "", "TooGreat": "", "BadQuestion": "",
               "Fails": "", "Missing": ""},
    "contexts": {"Context": "__init__ __getitem__ __setitem__ __contains__ __len__ __eq__ drop pairs copy is_same",
                 "Token": "__init__"},
    "rooms": {"Room": "__init__ put drop read show hold reset copy run within make log", "Instance": "step close"},
    "shelf": {"Shelf": "__init__ __getitem__ __setitem__ forget __contains__ __len__ names book alike parting ends quiet"
                       " lean classes walked trial __eq__ covered_by"},
    "desk": {"Desk": "__init__ say"},
}
CONSTANTS = {
    "pieces": {"MOST_PIECES": 6, "MOST_STATEMENTS": 16, "MOST_AROUND": 4, "KINDS": ("context", "token")},
    "machine": {"FRESH": "fresh", "STANDS": "stands", "OVER": "over"},
    "programs": {"MOST_DEEP": 12},
    "alike": {"MOST_ASKED": 8, "MOST_VARS_ASKED": 2},
}


def module_of(name):
    return importlib.import_module("stepwhere." + name)


class TestInterface(unittest.TestCase):

    def test_functions(self):
        for name, functions in FUNCTIONS.items():
            for function, parameters in functions.items():
                found = getattr(module_of(name), function)
                self.assertEqual(found.__module__, "stepwhere." + name)
                self.assertEqual(list(inspect.signature(found).parameters), parameters.split(), function)

    def test_classes_and_their_own_methods(self):
        for name, classes in CLASSES.items():
            for one, methods in classes.items():
                found = getattr(module_of(name), one)
                self.assertEqual(found.__module__, "stepwhere." + name)
                for method in methods.split():
                    self.assertTrue(inspect.isfunction(vars(found).get(method)), (one, method))

    def test_constants(self):
        for name, constants in CONSTANTS.items():
            for constant, value in constants.items():
                self.assertEqual(getattr(module_of(name), constant), value)
                self.assertIs(type(getattr(module_of(name), constant)), type(value))

    def test_errors_stand_straight_under_theirs(self):
        self.assertEqual(errors.StepwhereError.__bases__, (ValueError,))
        for kind in (errors.BadBook, errors.BadProgram, errors.BadText, errors.TooGreat, errors.BadQuestion):
            self.assertEqual(kind.__bases__, (errors.StepwhereError,))
        self.assertEqual((errors.Fails.__bases__, errors.Missing.__bases__), ((RuntimeError,), (KeyError,)))

    def test_every_module_of_the_package_can_be_imported_by_itself(self):
        for name in ("errors", "contexts", "pieces", "booktexts", "machine", "rooms", "programs", "programtexts", "play",
                     "alike", "reach", "shorter", "shelf", "desk"):
            self.assertEqual(module_of(name).__name__, "stepwhere." + name)
        self.assertEqual((machine.FRESH, pieces.KINDS), ("fresh", ("context", "token")))


if __name__ == "__main__":
    unittest.main()
