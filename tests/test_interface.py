"""The interface: names, the files that define them, parameters, and what values are no others."""

import importlib
import inspect
import unittest

from lotkeepers.circles import Circle
from lotkeepers.desk import Desk
from lotkeepers.houses import House
from lotkeepers.runs import Run
from lotkeepers.shelves import Shelf
from lotkeepers.stores import Store

FUNCTIONS = {
    "circles": {"lots": "circle", "both": "circle one other", "either": "circle one other"},
    "families": {
        "least": "circle some", "has": "circle family lot", "shows_has": "circle family lot value",
        "within": "circle one other",
        "shows_within": "circle one other value", "joined": "circle one other", "shared": "circle one other",
        "many": "circle family",
    },
    "duals": {
        "dual": "circle family", "meet": "circle one other", "shows_meet": "circle one other value",
        "most_falls": "circle family", "shows_most_falls": "circle family value",
    },
    "chances": {"chance": "circle family each", "better": "circle one other", "shows_better": "circle one other value"},
    "shelves": {"answer": "shelf keeper record", "comes_to": "shelf spots"},
    "bringing": {"brings": "shelf lot", "shows_brings": "shelf lot value", "unlike": "shelf lot", "bringing": "shelf"},
    "answers": {
        "told": "shelf answers", "shows_told": "shelf answers value", "fitting": "shelf answers",
        "differ": "shelf answers record",
    },
    "spare": {
        "spare": "shelf", "spare_pieces": "shelf", "same_lots": "one other", "shows_same_lots": "one other value",
        "summed": "shelf changes",
    },
    "stores": {"store_of": "shelf writes asks"},
    "sound": {"shared": "store write ask", "sound": "store", "shows_sound": "store value"},
    "standing": {
        "stands": "store number", "shows_stands": "store number value", "most_stood": "store", "left": "store lot",
    },
    "freest": {"askers": "store", "writers": "store", "freed": "store"},
    "costs": {"needless": "store", "slack": "store", "cheapest_lots": "store prices"},
    "changing": {
        "by_choice": "store offers choice", "cheapest": "store offers wishes", "shows_cheapest": "store offers wishes value",
    },
    "judging": {"missed": "run", "shows_missed": "run value", "turned": "run", "shows_turned": "run value", "early": "run"},
    "histories": {"seen": "run", "regular": "history", "shows_regular": "history value"},
    "orders": {"zone": "history stamp", "one_at_a_time": "history", "shows_one_at_a_time": "history value"},
    "allruns": {"misses": "store", "shows_misses": "store value"},
    "turning": {"steady": "store", "shows_steady": "store value", "turning_run": "store write first second lot"},
    "twice": {"doubled": "run", "owed": "run"},
    "maybe": {"may_bring": "store state ask", "surely_brings": "store state ask"},
    "lies": {
        "overruled": "shelf lot bound", "shows_overruled": "shelf lot bound value", "overruling": "shelf bound",
        "believed": "shelf answers bound", "nearest": "shelf answers",
    },
    "liars": {"liars": "shelf answers bound", "asked_more": "shelf answers bound"},
    "honest": {
        "honest": "store bound", "shows_honest": "store bound value", "most_lies": "store", "honest_askers": "store bound",
    },
    "forgetting": {"safe_below": "store holding", "let_go": "store holding stamp", "brought_by": "store holding ask"},
    "mending": {
        "mends": "shelf keeper helpers", "shows_mends": "shelf keeper helpers value", "helping": "shelf keeper",
        "made": "shelf keeper sums answers",
    },
    "fetching": {
        "fewest_fetched": "shelf keeper helpers", "shows_fewest_fetched": "shelf keeper helpers value",
        "cheapest_fetched": "shelf keeper prices", "shows_cheapest_fetched": "shelf keeper prices value",
    },
    "plans": {
        "plan": "shelf lost", "shows_plan": "shelf lost value", "cheapest_plan": "shelf lost prices",
        "shows_cheapest_plan": "shelf lost prices value",
    },
    "repaired": {"after": "store lost", "risk": "store number", "most_lost": "store"},
    "leading": {
        "across": "one other", "shows_across": "one other value", "led": "way", "shows_led": "way value",
        "copied": "way", "shows_copied": "way value",
    },
    "joint": {"joint": "one other", "by_joint": "one other"},
    "passages": {"passage": "one other steps", "shows_passage": "one other steps value"},
    "moving": {"without_keeper": "store keeper", "with_keeper": "store name pieces", "still": "store keeper"},
    "wellness": {"audit": "house", "cure": "house", "spread": "house", "needed": "house"},
    "journals": {"journal": "house", "read_journal": "text"},
}
CLASSES = {
    ("circles", "Circle"): {"__init__": "self names", "lot": "self some", "rest": "self lot", "__len__": "self"},
    ("shelves", "Shelf"): {"__init__": "self text", "__len__": "self"},
    ("stores", "Store"): {
        "__init__": "self text", "with_write": "self lot", "with_ask": "self lot", "without_write": "self number",
        "without_ask": "self number",
    },
    ("runs", "Run"): {
        "__init__": "self store deeds", "brought": "self read", "record": "self stamp", "has": "self keeper",
        "told": "self read stamp",
    },
    ("houses", "House"): {
        "__init__": "self store", "holds": "self keeper", "put": "self number record", "give": "self stamp keeper",
        "fall": "self keeper", "rise": "self keeper", "lose": "self keeper", "mend": "self keeper helpers",
        "read": "self number back", "let_go": "self stamp", "lead": "self other ask number", "undo": "self", "redo": "self",
        "trial": "self", "keep": "self", "tried": "self look keep", "copy": "self", "__len__": "self", "__eq__": "self other",
    },
    ("desk", "Desk"): {"__init__": "self text", "say": "self line"},
}
STORE_TEXT = "parts x\nkeeper a x\nkeeper b x\nwrite a\nask a b"
ATTRIBUTES = [
    (Circle(("a", "b")), "names"), (Shelf("parts x\nkeeper a x\nkeeper b x"), "text parts circle pieces"),
    (Store(STORE_TEXT), "text shelf writes asks"), (Run(Store(STORE_TEXT), ()), "store deeds writes reads"),
    (House(Store(STORE_TEXT)), "store first records ended down done"), (Desk(STORE_TEXT + "\nhouse"), "house"),
]


def words(call):
    return " ".join(inspect.signature(call).parameters)


class TestInterface(unittest.TestCase):
    def test_functions(self):
        for place, rows in FUNCTIONS.items():
            module = importlib.import_module("lotkeepers." + place)
            for name, named in rows.items():
                held = getattr(module, name)
                self.assertEqual((held.__module__, words(held)), (module.__name__, named), name)
                kinds = {row.kind for row in inspect.signature(held).parameters.values()}
                self.assertEqual(kinds, {inspect.Parameter.POSITIONAL_OR_KEYWORD}, name)

    def test_classes(self):
        for (place, name), rows in CLASSES.items():
            held = getattr(importlib.import_module("lotkeepers." + place), name)
            self.assertEqual(held.__module__, "lotkeepers." + place)
            for method, named in rows.items():
                self.assertIn(method, vars(held), name)
                self.assertEqual(words(getattr(held, method)), named, (name, method))
                kinds = {row.name: row.kind for row in inspect.signature(getattr(held, method)).parameters.values()}
                by_name = [row for row in kinds if kinds[row] is not inspect.Parameter.POSITIONAL_OR_KEYWORD]
                # Only what stands behind a `*` is passed by name alone.
                self.assertEqual(by_name, ["keep"] if method == "tried" else [], (name, method))

    def test_attributes_are_set_when_an_object_is_created(self):
        for held, names in ATTRIBUTES:
            for name in names.split():
                self.assertIn(name, vars(held), type(held))


if __name__ == "__main__":
    unittest.main()
