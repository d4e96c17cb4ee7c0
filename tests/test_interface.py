import importlib
import inspect
import unittest

INTERFACE = {
    "ratios": {
        "fraction": "numerator denominator", "plus": "a b", "minus": "a b", "times": "a b",
        "compare": "a b", "total": "items",
    },
    "catalogues": {
        "check_catalogue": "catalogue", "rows_of": "catalogue name", "columns_of": "catalogue name",
        "with_row": "catalogue name row", "without_row": "catalogue name row",
    },
    "notation": {"write_catalogue": "catalogue", "read_catalogue": "text"},
    "patterns": {
        "check_pattern": "pattern", "check_fit": "catalogue pattern", "variables_of": "pattern",
        "is_full": "pattern",
    },
    "texts": {"write_pattern": "pattern", "read_pattern": "text"},
    "meaning": {"plain_answers": "catalogue pattern"},
    "tries": {"common": "rows"},
    "joins": {
        "join": "catalogue pattern order", "answers": "catalogue pattern", "orders_by_visits": "catalogue pattern",
    },
    "covers": {
        "best_cover": "pattern chosen", "check_cover": "pattern chosen cover",
        "check_packing": "pattern chosen packing", "bound_of": "catalogue pattern cover", "within": "number bound",
        "bounds_along": "catalogue pattern order",
    },
    "parts": {"check_parts": "pattern parts", "width_of": "parts", "order_of": "parts"},
    "widths": {"atom_tree": "pattern", "least_parts": "pattern", "least_width": "pattern"},
    "arithmetics": {"add_ways": "p q", "multiply_ways": "p q", "turned": "p weights arithmetic"},
    "totals": {
        "totals": "catalogue weights pattern arithmetic", "whole_total": "catalogue weights pattern arithmetic",
    },
    "reasons": {
        "witnesses": "catalogue pattern answer", "least_witness": "catalogue pattern answer",
        "least_cut": "catalogue pattern answer", "needed": "catalogue pattern answer",
        "check_cut": "catalogue pattern answer facts",
    },
    "maps": {"find_map": "P R", "check_map": "P R pairs", "case_of": "pattern", "contained": "R P"},
    "cores": {"core_of": "pattern", "alike": "P R"},
    "journals": {"replay": "text", "replay_whole_lines": "text"},
}
CLASSES = {
    ("tries", "Trie"): {"__init__": "rows positions", "count": "", "children": "prefix", "has": "prefix"},
    ("walking", "Walker"): {
        "__init__": "trie", "down": "", "up": "", "key": "", "next": "", "seek": "n", "at_end": "", "level": "",
        "moves": "",
    },
    ("factors", "Factors"): {
        "__init__": "catalogue pattern parts", "count": "", "answer": "k", "number": "row", "rows": "",
        "begins": "prefix", "next_ones": "prefix", "levels": "",
    },
    ("keeping", "Keeper"): {
        "__init__": "catalogue", "stand": "name pattern", "fall": "name", "answers": "name", "ways": "name answer",
        "add": "table row", "drop": "table row",
    },
}
PROPERTIES = {("factors", "Factors"): ["order"], ("keeping", "Keeper"): ["catalogue", "names", "log"]}
CONSTANTS = {
    "catalogues": {"TABLE_LIMIT": 8, "ROW_LIMIT": 300, "COLUMN_LIMIT": 4},
    "patterns": {"ATOM_LIMIT": 8, "VARIABLE_LIMIT": 8},
    "joins": {"VISIT_LIMIT": 20000},
    "keeping": {"STANDING_LIMIT": 8},
}


class Interface(unittest.TestCase):
    def test_functions_stand_where_they_are_listed(self):
        for home, calls in INTERFACE.items():
            module = importlib.import_module("joinhall." + home)
            for name, arguments in calls.items():
                with self.subTest(home=home, name=name):
                    call = getattr(module, name)
                    self.assertTrue(inspect.isfunction(call))
                    self.assertEqual(call.__module__, "joinhall." + home)
                    self.assertEqual(list(inspect.signature(call).parameters), arguments.split())

    def test_constants(self):
        for home, constants in CONSTANTS.items():
            module = importlib.import_module("joinhall." + home)
            self.assertEqual({name: getattr(module, name) for name in constants}, constants)

    def test_methods_stand_in_the_classes_themselves(self):
        for (home, name), methods in CLASSES.items():
            found = getattr(importlib.import_module("joinhall." + home), name)
            self.assertEqual(found.__module__, "joinhall." + home)
            for method, arguments in methods.items():
                with self.subTest(name=name, method=method):
                    call = vars(found)[method]
                    self.assertTrue(inspect.isfunction(call))
                    self.assertEqual(list(inspect.signature(call).parameters), ["self"] + arguments.split())

    def test_properties(self):
        for (home, name), properties in PROPERTIES.items():
            found = vars(getattr(importlib.import_module("joinhall." + home), name))
            for one in properties:
                self.assertIsInstance(found[one], property)


if __name__ == "__main__":
    unittest.main()
