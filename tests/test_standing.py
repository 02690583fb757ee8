"""Section 14: falls."""

import itertools
import unittest

from helper import Checks, all_lots, deep, one_of
from lotkeepers.errors import BadLot, BadNumber
from lotkeepers.standing import left, most_stood, shows_stands, stands
from lotkeepers.stores import store_of
from test_families import NO_LOT
from test_shelves import SHELF, SHELVES
from test_sound import FEW, SMALL, drawn_stores
from test_stores import FULL, STORE

CROSSED = store_of(SHELF, (("a", "b"), ("c", "d")), (("a", "c"), ("b", "d")))
ONES = tuple((name,) for name in "fedcba")
STORES = [STORE, SMALL, FEW, FULL, CROSSED, store_of(SHELVES[3], ONES, ONES), store_of(SHELVES[3], (ONES[0], ONES[5]), ONES)]


def remain(some, fallen):
    return tuple(number for number, lot in enumerate(some) if not set(lot) & set(fallen))


def stops(store, number):
    """All falls of so many keepers by which no writing lot, or no reading lot, is left."""
    return [lot for lot in itertools.combinations(store.shelf.circle.names, number)
            if not remain(store.writes, lot) or not remain(store.asks, lot)]


class TestStands(Checks, unittest.TestCase):
    def test_all_numbers(self):
        for store in STORES + list(drawn_stores(60)):
            for number in range(len(store.shelf.circle) + 1):
                rights = [("falls", lot) for lot in stops(store, number)] or [("stands",)]
                self.assertTrue(one_of(rights)(stands(store=store, number=number)), (store.text, number))
                for value in rights:
                    self.assertIs(shows_stands(store=store, number=number, value=value), True)

    def test_near_right_values(self):
        for store in STORES:
            for number in range(len(store.shelf.circle) + 1):
                rights = [("falls", lot) for lot in stops(store, number)] or [("stands",)]
                self.check_shows(shows_stands, (store, number), one_of(rights), rights)
                for lot in all_lots(store.shelf.circle.names):
                    self.assertIs(shows_stands(store, number, ("falls", lot)), ("falls", lot) in rights)

    def test_ends(self):
        for store in STORES:
            self.check_same(stands(store, 0), ("stands",))
            self.check_same(stands(store, len(store.shelf.circle)), ("falls", store.shelf.circle.names))
        self.assertEqual(most_stood(STORES[5]), 5)
        self.assertEqual([most_stood(STORE), most_stood(CROSSED), most_stood(STORES[6])], [0, 1, 1])

    def test_wrong_numbers(self):
        wrong = [-1, 5, 7, None, True, False, "0", "1", (), (1,), [1], {}, deep(30), 999999999]
        for call in (stands, lambda store, number: shows_stands(store, number, ("stands",))):
            self.check_refuses(BadNumber, wrong, lambda value: call(STORE, value))
            self.check_refuses(BadNumber, wrong + [3], lambda value: call(store=FEW, number=value))
        self.assertEqual(stands(STORES[5], 5), ("stands",))


class TestMostStood(Checks, unittest.TestCase):
    def test_by_going_through_all_falls(self):
        for store in STORES + list(drawn_stores(120)):
            right = max(number for number in range(len(store.shelf.circle)) if not stops(store, number))
            self.check_same(most_stood(store=store), right)


class TestLeft(Checks, unittest.TestCase):
    def test_all_falls(self):
        for store in STORES + list(drawn_stores(30)):
            for lot in all_lots(store.shelf.circle.names):
                self.check_same(left(store=store, lot=lot), (remain(store.writes, lot), remain(store.asks, lot)))
        self.check_same(left(STORE, ()), ((0, 1), (0, 1, 2)))
        self.check_same(left(STORE, ("a", "b", "c", "d")), ((), ()))

    def test_wrong_lots(self):
        self.check_refuses(BadLot, NO_LOT, lambda value: left(STORE, value))
        self.check_refuses(BadLot, NO_LOT, lambda value: left(lot=value, store=STORE))


if __name__ == "__main__":
    unittest.main()
