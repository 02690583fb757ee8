"""Section 33: stores that are mended."""

import unittest

from helper import Checks, all_lots, junk
from lotkeepers.errors import BadLot, BadNumber
from lotkeepers.plans import plan
from lotkeepers.repaired import after, most_lost, risk
from lotkeepers.shelves import Shelf
from lotkeepers.standing import left
from lotkeepers.stores import store_of
from test_costs import STORES
from test_families import NO_LOT
from test_lies import SIX_KEEP
from test_mending import first_lost
from test_plans import outside
from test_sound import NO_NUMBERS, drawn_stores
from test_stores import STORE

EVERY = STORES + list(drawn_stores(50)) + [store_of(SIX_KEEP, (tuple("fedcba"),), (("f",), ("a",)))]


def can_be_mended(shelf, lost):
    return all(first_lost(shelf, keeper, outside(shelf, lost)) is None for keeper in lost)


class TestAfter(Checks, unittest.TestCase):
    def test_all_lots(self):
        for store in EVERY:
            for lost in all_lots(store.shelf.circle.names):
                right = []
                for some in (store.writes, store.asks):
                    whole = can_be_mended(store.shelf, lost)
                    right.append(tuple(number for number, lot in enumerate(some) if whole or not set(lot) & set(lost)))
                self.check_same(after(store=store, lost=lost), tuple(right))

    def test_losing_is_not_falling(self):
        self.check_same(after(STORE, ("a",)), ((0, 1), (0, 1, 2)))
        self.check_same(left(STORE, ("a",)), ((1,), ()))
        # Without a plan the two are alike, though some of the lost ones could be mended.
        never = store_of(Shelf("parts x y\nkeeper a x\nkeeper b x\nkeeper c y\nkeeper d y"), (("a",), ("b",), ("c",)),
                         (("a", "b"), ("d",)))
        self.assertEqual(plan(never.shelf, ("a", "c", "d"))[:2], ("never", ("a",)))
        self.check_same(after(never, ("a", "c", "d")), ((1,), ()))
        self.check_same(after(never, ("a", "c")), ((0, 1, 2), (0, 1)))
        self.check_same(after(never, ("a", "b")), ((2,), (1,)))

    def test_wrong_lots(self):
        self.check_refuses(BadLot, NO_LOT, lambda value: after(STORE, value))
        self.check_refuses(BadLot, NO_LOT, lambda value: after(lost=value, store=STORE))


class TestRisk(Checks, unittest.TestCase):
    def test_each_number(self):
        for store in EVERY:
            every = all_lots(store.shelf.circle.names)
            risks = []
            for number in range(len(store.shelf.circle) + 1):
                risks.append(len([lot for lot in every if len(lot) == number and not can_be_mended(store.shelf, lot)]))
                self.check_same(risk(store=store, number=number), risks[-1])
            first = [number for number, many in enumerate(risks) if many][0]
            self.check_same(most_lost(store=store), first - 1)

    def test_ends(self):
        pair = store_of(Shelf("parts x y\nkeeper a x\nkeeper b y"), (("a",),), (("a", "b"),))
        self.check_same([risk(pair, number) for number in range(3)], [0, 2, 1])
        self.check_same(most_lost(pair), 0)
        six = EVERY[-1]
        self.check_same([risk(six, number) for number in range(7)], [0] * 6 + [1])
        self.check_same(most_lost(six), 5)

    def test_wrong_numbers(self):
        for value in NO_NUMBERS + [5, 6] + [value for value in junk() if type(value) is not int or value not in range(5)]:
            self.check_keeps(BadNumber, value, risk, STORE, value)
            self.check_keeps(BadNumber, value, risk, number=value, store=STORE)
        self.check_keeps(BadNumber, 3, risk, STORES[2], 3)


if __name__ == "__main__":
    unittest.main()
