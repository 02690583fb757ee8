"""The interface: names, the files that define them, parameters, and what values are no others."""

import importlib
import inspect
import unittest

FUNCTIONS = {
    "circles": {"lots": "circle", "both": "circle one other", "either": "circle one other"},
    "families": {
        "least": "circle some", "has": "circle family lot", "shows_has": "circle family lot value", "within": "circle one other",
        "shows_within": "circle one other value", "joined": "circle one other", "shared": "circle one other",
        "many": "circle family",
    },
    "duals": {
        "dual": "circle family", "meet": "circle one other", "shows_meet": "circle one other value",
        "most_falls": "circle family", "shows_most_falls": "circle family value",
    },
    "chances": {"chance": "circle family each", "better": "circle one other", "shows_better": "circle one other value"},
    "shelves": {"answer": "shelf keeper record", "comes_to": "shelf spots"},
    "bringing": {"brings": "shelf lot", "shows_brings": "shelf lot value", "unlike": "shelf lot", "bringing": "shelf"},
    "answers": {
        "told": "shelf answers", "shows_told": "shelf answers value", "fitting": "shelf answers",
        "differ": "shelf answers record",
    },
    "spare": {
        "spare": "shelf", "spare_pieces": "shelf", "same_lots": "one other", "shows_same_lots": "one other value",
        "summed": "shelf changes",
    },
    "stores": {"store_of": "shelf writes asks"},
    "sound": {"shared": "store write ask", "sound": "store", "shows_sound": "store value"},
    "standing": {
        "stands": "store number", "shows_stands": "store number value", "most_stood": "store", "left": "store lot",
    },
    "freest": {"askers": "store", "writers": "store", "freed": "store"},
}
CLASSES = {
    ("circles", "Circle"): {"__init__": "self names", "lot": "self some", "rest": "self lot", "__len__": "self"},
    ("shelves", "Shelf"): {"__init__": "self text", "__len__": "self"},
    ("stores", "Store"): {
        "__init__": "self text", "with_write": "self lot", "with_ask": "self lot", "without_write": "self number",
        "without_ask": "self number",
    },
}


def words(call):
    return " ".join(inspect.signature(call).parameters)


class TestInterface(unittest.TestCase):
    def test_functions(self):
        for place, rows in FUNCTIONS.items():
            module = importlib.import_module("lotkeepers." + place)
            for name, named in rows.items():
                held = getattr(module, name)
                self.assertEqual((held.__module__, words(held)), (module.__name__, named), name)
                kinds = {row.kind for row in inspect.signature(held).parameters.values()}
                self.assertEqual(kinds, {inspect.Parameter.POSITIONAL_OR_KEYWORD}, name)

    def test_classes(self):
        for (place, name), rows in CLASSES.items():
            held = getattr(importlib.import_module("lotkeepers." + place), name)
            self.assertEqual(held.__module__, "lotkeepers." + place)
            for method, named in rows.items():
                self.assertIn(method, vars(held), name)
                self.assertEqual(words(getattr(held, method)), named, (name, method))


if __name__ == "__main__":
    unittest.main()
