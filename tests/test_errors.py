import unittest

from joinhall import errors

NAMES = (
    "ZeroDenominator TextError CatalogueError TooLarge UnknownTable RowError PatternError"
    " OrderError WalkError VariableError CoverError PartsError NoAnswer KindError WeightError"
    " StandingError JournalError"
).split()


class Errors(unittest.TestCase):
    """Point 3."""

    def test_hall_error_is_directly_under_value_error(self):
        self.assertEqual(errors.HallError.__bases__, (ValueError,))

    def test_all_others_are_directly_under_hall_error(self):
        for name in NAMES:
            with self.subTest(name):
                self.assertEqual(getattr(errors, name).__bases__, (errors.HallError,))

    def test_classes_are_defined_here_and_there_are_no_others(self):
        found = [name for name in vars(errors) if not name.startswith("_")]
        self.assertEqual(sorted(found), sorted(["HallError"] + NAMES))
        for name in found:
            self.assertEqual(getattr(errors, name).__module__, "joinhall.errors")
            self.assertEqual(getattr(errors, name).__name__, name)


if __name__ == "__main__":
    unittest.main()
