"""Section 4: circles and lots."""

import itertools
import unittest

from helper import Checks, RING, all_lots, deep, junk
from lotkeepers.circles import Circle, both, either, lots
from lotkeepers.errors import BadLot, BadNames
from lotkeepers.shelves import Shelf

TWO = Circle(("b", "a"))
SIX = Circle(("f", "e", "d", "c", "b", "a"))

WRONG_NAMES = [
    (), ("a",), ("a", "b", "c", "d", "e", "f", "g"), ("a", "a"), ("a", "b", "a"), ["a", "b"], "ab", {"a": 1, "b": 2},
    ("a", ""), ("a", "abcdefghi"), ("a", "B"), ("a", "b1"), ("a", "b "), (" a", "b"), ("a", "a b"), ("a", "b\n"),
    ("a", 1), ("a", None), ("a", True), ("a", ("b",)), ("a", ["b"]), (("a", "b"),), ("a", {}), ("a", Circle(("a", "b"))),
    ("a", "+"), ("a", "b_"), (["a"], ["a"]), None, True, 2, 0, deep(30), (deep(30), "a"), Circle(("a", "b")),
]

WRONG_LOTS = [
    ("b", "a"), ("a", "a"), ("z",), ("a", "z"), ["a"], [], "a", "", None, True, 0, 1, {}, {"a": 1}, ("a", 1), (1,), (True,),
    (("a",),), ((),), (["a"],), ("a", "c", "b"), ("a", "b", "c", "d", "a"), ("a ",), ("A",), ("",), ("ab",), (None,), deep(30),
    Circle(("a", "b")),
]


class TestCircle(Checks, unittest.TestCase):
    def test_names_are_kept(self):
        for names in (("b", "a"), ("a", "b", "c", "d", "e", "f"), ("abcdefgh", "z"), ("write", "parts", "keeper")):
            self.check_same(Circle(names).names, names)
            self.check_same(Circle(names=names).names, names)
            self.assertEqual(len(Circle(names)), len(names))

    def test_wrong_names(self):
        self.check_refuses(BadNames, WRONG_NAMES, Circle)
        self.check_refuses(BadNames, WRONG_NAMES, lambda value: Circle(names=value))

    def test_all_letters(self):
        names = ("abcdefgh", "ijklmnop", "qrstuvwx", "yz")
        self.check_same(Circle(names).names, names)
        for sign in "`{@[AZ09_-+. ":
            with self.assertRaises(BadNames):
                Circle(("a", sign))

    def test_what_is_in_it(self):
        for name in ("a", "b", "c", "d"):
            self.assertIs(name in RING, True)
        for value in junk():
            if value != "a" and value != "b":
                self.assertIs(value in RING, False, value)
        self.assertIs("e" in RING, False)
        self.assertIs("e" in SIX, True)

    def test_equal_by_names_alone(self):
        self.assertTrue(Circle(("a", "b")) == Circle(("a", "b")))
        self.assertFalse(Circle(("a", "b")) != Circle(("a", "b")))
        for other in (Circle(("b", "a")), Circle(("a", "c")), Circle(("a", "b", "c")), ("a", "b"), ["a", "b"], "ab", None, 2,
                      True, Shelf("parts x\nkeeper a x\nkeeper b x")):
            self.assertIs(Circle(("a", "b")) == other, False)
            self.assertIs(other == Circle(("a", "b")), False)
            self.assertIs(Circle(("a", "b")) != other, True)

    def test_the_lot_of_some(self):
        for many in range(4):
            for some in itertools.product(RING.names, repeat=many):
                right = tuple(name for name in RING.names if name in some)
                self.check_same(RING.lot(some), right)
        self.check_same(SIX.lot(("a", "f", "a")), ("f", "a"))
        self.check_same(SIX.lot(some=SIX.names[::-1]), SIX.names)

    def test_no_lot_of_wrong_ones(self):
        mixed = (("b", "a"), ("a", "a"), ("a", "c", "b"), ("a", "b", "c", "d", "a"))
        self.check_refuses(BadNames, [value for value in WRONG_LOTS if value not in mixed], RING.lot)
        self.check_refuses(BadNames, [("c",), ("a", "b", "c")], TWO.lot)

    def test_the_rest(self):
        for circle in (TWO, RING, SIX):
            for lot in all_lots(circle.names):
                self.check_same(circle.rest(lot), tuple(name for name in circle.names if name not in lot))
        self.check_same(RING.rest(lot=()), RING.names)
        self.check_refuses(BadLot, WRONG_LOTS, RING.rest)
        self.check_refuses(BadLot, [("a", "b"), ("c",)], TWO.rest)


class TestLots(Checks, unittest.TestCase):
    def test_all_in_sequence(self):
        for many in range(2, 7):
            names = ("f", "a", "c", "b", "e", "d")[:many]
            made = lots(Circle(names))
            self.check_same(made, tuple(all_lots(names)))
            self.assertEqual(len(made), 2 ** many)
        self.check_same(lots(circle=TWO), ((), ("b",), ("a",), ("b", "a")))

    def test_both_and_either(self):
        for circle in (TWO, RING):
            for one in all_lots(circle.names):
                for other in all_lots(circle.names):
                    met = tuple(name for name in circle.names if name in one and name in other)
                    self.check_same(both(circle, one, other), met)
                    sum_of = tuple(name for name in circle.names if name in one or name in other)
                    self.check_same(either(circle, one, other), sum_of)
        self.check_same(both(other=("a",), circle=SIX, one=("b", "a")), ("a",))
        self.check_same(either(other=("f",), circle=SIX, one=("b", "a")), ("f", "b", "a"))

    def test_wrong_lots(self):
        for call in (both, either):
            self.check_refuses(BadLot, WRONG_LOTS, lambda value: call(RING, value, ("a",)))
            self.check_refuses(BadLot, WRONG_LOTS, lambda value: call(RING, ("a",), value))
            for other in WRONG_LOTS:
                self.check_refuses(BadLot, WRONG_LOTS, lambda value: call(RING, value, other))
                self.check_refuses(BadLot, WRONG_LOTS, lambda value: call(circle=RING, other=other, one=value))


if __name__ == "__main__":
    unittest.main()
