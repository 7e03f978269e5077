"""[3] and the interface: every error class with its bases, its code and its attributes."""

import inspect
import unittest

from ownfill import errors

FILL_ERRORS = {
    "InvalidLetters": [], "UnknownLetter": ["position"], "LettersDiffer": [], "ParseError": ["position"],
    "InvalidText": [], "InvalidMachine": ["room"], "InvalidGame": ["index"], "TooLong": ["limit"],
    "TooMany": ["limit"], "NoTemplate": [], "InvalidName": ["name"], "WrongKind": ["name"],
    "CircularName": ["name"], "NameInUse": ["name"], "DuplicateName": ["name"], "LimitReached": ["limit"],
    "InvalidCommand": ["index"],
}
MISSING = {"UnknownName": ["name"], "NothingLeft": []}
VALUES = {"position": 3, "room": 0, "index": 12, "limit": 400, "name": "loop"}


class ErrorClasses(unittest.TestCase):
    def check(self, name, base, parameters):
        kind = getattr(errors, name)
        self.assertEqual(kind.__bases__, (base,))
        self.assertEqual(kind.__module__, "ownfill.errors")
        self.assertEqual(list(inspect.signature(kind).parameters), parameters)
        values = {parameter: VALUES[parameter] for parameter in parameters}
        for error in (kind(*values.values()), kind(**values)):
            self.assertEqual(error.code, name)
            for parameter, value in values.items():
                self.assertEqual(getattr(error, parameter), value)
            with self.assertRaises(base) as caught:
                raise error
            self.assertIs(caught.exception, error)

    def test_base_classes(self):
        self.check("FillError", ValueError, [])
        self.check("Missing", LookupError, [])

    def test_errors_about_values(self):
        for name, parameters in FILL_ERRORS.items():
            with self.subTest(name):
                self.check(name, errors.FillError, parameters)

    def test_errors_about_missing_things(self):
        for name, parameters in MISSING.items():
            with self.subTest(name):
                self.check(name, errors.Missing, parameters)

    def test_the_two_families_are_apart(self):
        self.assertFalse(issubclass(errors.FillError, LookupError))
        self.assertFalse(issubclass(errors.Missing, ValueError))

    def test_no_other_error_class(self):
        found = {name for name, value in vars(errors).items() if inspect.isclass(value)}
        self.assertEqual(found, {"FillError", "Missing", *FILL_ERRORS, *MISSING})


if __name__ == "__main__":
    unittest.main()
