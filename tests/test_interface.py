import importlib
import inspect
import unittest

INTERFACE = {
    "ratios": {
        "fraction": "numerator denominator", "plus": "a b", "minus": "a b", "times": "a b",
        "compare": "a b", "total": "items",
    },
    "catalogues": {
        "check_catalogue": "catalogue", "rows_of": "catalogue name", "columns_of": "catalogue name",
        "with_row": "catalogue name row", "without_row": "catalogue name row",
    },
    "notation": {"write_catalogue": "catalogue", "read_catalogue": "text"},
    "patterns": {
        "check_pattern": "pattern", "check_fit": "catalogue pattern", "variables_of": "pattern",
        "is_full": "pattern",
    },
    "texts": {"write_pattern": "pattern", "read_pattern": "text"},
    "meaning": {"plain_answers": "catalogue pattern"},
}


class Interface(unittest.TestCase):
    def test_functions_stand_where_they_are_listed(self):
        for home, calls in INTERFACE.items():
            module = importlib.import_module("joinhall." + home)
            for name, arguments in calls.items():
                with self.subTest(home=home, name=name):
                    call = getattr(module, name)
                    self.assertTrue(inspect.isfunction(call))
                    self.assertEqual(call.__module__, "joinhall." + home)
                    self.assertEqual(list(inspect.signature(call).parameters), arguments.split())


if __name__ == "__main__":
    unittest.main()
