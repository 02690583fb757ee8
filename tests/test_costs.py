"""Section 16: what is needless, and what lots cost."""

import itertools
import unittest

from helper import Checks, all_lots, deep, inside, junk
from lotkeepers.costs import cheapest_lots, needless, slack
from lotkeepers.errors import BadPrices, Unsound
from lotkeepers.shelves import Shelf
from lotkeepers.sound import shows_sound, sound
from lotkeepers.stores import store_of
from test_bringing import NEVER, is_back
from test_freest import SIX, crossing
from test_shelves import SHELF, SHELVES
from test_sound import FEW, SMALL, drawn_stores, is_sound
from test_stores import FULL, STORE

ALIKE = store_of(Shelf("parts x\nkeeper c x\nkeeper a x\nkeeper b x"), (("c",), ("a",), ("c", "a", "b")),
                 (("c", "a"), ("c", "a", "b"), ("a", "b")))
STORES = [STORE, SMALL, FEW, FULL, SIX, ALIKE]

NO_PRICES = [
    (), [], None, True, 5, "", "1239", {}, (1, 2, 3), (1, 2, 3, 4, 5), [1, 2, 3, 4], (0, 1, 1, 1), (1, 1, 1, 0), (10, 1, 1, 1),
    (1, 10, 1, 1),
    (1, 1, 1, -1), (True, 1, 1, 1), (1, 1, True, 1), (1, 1, 1, False), ("1", 1, 1, 1), (1, None, 1, 1), (1, 1, (1,), 1),
    (1, 1, [1], 1),
    ((1, 2, 3, 4),), deep(30), (deep(30), 1, 1, 1), (1, 1, 1, 999999999), STORE, (SHELF, 1, 1, 1), ("a", "b", "c", "d"),
]


def wider_ones(some):
    """The numbers of those of some lots that have another one within."""
    return tuple(number for number, lot in enumerate(some)
                 if any(inside(other, lot) for place, other in enumerate(some) if place != number))


def without(lot, keeper):
    return tuple(name for name in lot if name != keeper)


def to_spare(shelf, some, others):
    """Of each of some lots, the keepers without each of whom it shares enough with all others, by all records."""
    return tuple(tuple(keeper for keeper in lot
                       if all(is_back(shelf, crossing(without(lot, keeper), other)) for other in others)) for lot in some)


def price_of(store, lot, prices):
    return sum(prices[store.shelf.circle.names.index(keeper)] for keeper in lot)


def least_price(store, some, prices):
    held = [price_of(store, lot, prices) for lot in some]
    return (min(held), held.index(min(held)))


class TestNeedless(Checks, unittest.TestCase):
    def test_by_going_through_all_pairs(self):
        for store in STORES + list(drawn_stores(150)):
            self.check_same(needless(store=store), (wider_ones(store.writes), wider_ones(store.asks)))

    def test_lots_within_one_another(self):
        rows = ((("a",), ("a", "b"), ("a", "b", "c")), (1, 2)), ((("a", "b", "c"), ("a", "b"), ("a",)), (0, 1)), \
            ((("a", "b"), ("a", "c"), ("b", "c")), ()), ((("d",),), ()), ((("a", "b"), ("c",), ("a", "b", "d"), ("c", "d")),
                                                                          (2, 3))
        for writes, right in rows:
            for asks, other in rows:
                self.check_same(needless(store_of(SHELF, writes, asks)), (right, other))

    def test_only_lots_of_the_same_kind_count(self):
        self.check_same(needless(store_of(SHELF, (("a", "b"),), (("a",), ("b", "c")))), ((), ()))
        self.check_same(needless(store_of(SHELF, (("a", "b"),), (("a", "b"),))), ((), ()))


class TestSlack(Checks, unittest.TestCase):
    def test_sound_stores(self):
        held = 0
        for store in STORES + list(drawn_stores(250)):
            if not is_sound(store):
                continue
            writes, asks = slack(store=store)
            self.check_same(writes, to_spare(store.shelf, store.writes, store.asks))
            self.check_same(asks, to_spare(store.shelf, store.asks, store.writes))
            held += any(writes) and any(asks)
        self.assertGreater(held, 20)

    def test_only_keepers_are_never_left_out(self):
        store = store_of(SHELVES[1], (("a",), ("a", "b")), (("a",),))
        self.check_same(slack(store), (((), ("b",)), ((),)))
        store = store_of(SHELF, (("d",),), (("d",), ("c", "d"), ("a", "b", "c", "d")))
        self.check_same(slack(store), (((),), ((), ("c",), ("a", "b", "c"))))

    def test_each_by_itself_not_all_together(self):
        store = store_of(SHELF, (("a", "b", "c"),), (("a", "b", "c"),))
        self.check_same(slack(store), ((("a", "b", "c"),), (("a", "b", "c"),)))

    def test_unsound_ones(self):
        never = store_of(NEVER[0], (("a", "b"),), (("a", "b"),))
        for store in [STORE, FULL, never] + [store for store in drawn_stores(80) if not is_sound(store)]:
            with self.assertRaises(Unsound) as caught:
                slack(store)
            self.assertIs(type(caught.exception), Unsound)
            self.assertEqual(caught.exception.value[0], "misses")
            self.assertIs(shows_sound(store, caught.exception.value), True)
            self.check_same(caught.exception.value, sound(store))


class TestCheapestLots(Checks, unittest.TestCase):
    def check_prices(self, store, prices):
        right = (least_price(store, store.writes, prices), least_price(store, store.asks, prices))
        self.check_same(cheapest_lots(store=store, prices=prices), right)

    def test_all_small_prices(self):
        for store in STORES + list(drawn_stores(10)):
            for prices in itertools.product((1, 2, 9), repeat=len(store.shelf.circle)):
                self.check_prices(store, prices)

    def test_the_first_one_at_this_price(self):
        store = store_of(SHELF, (("a", "b"), ("c",), ("d",), ("a",)), (("c", "d"), ("a", "b"), ("a", "c")))
        self.check_same(cheapest_lots(store, (1, 1, 1, 1)), ((1, 1), (2, 0)))
        self.check_same(cheapest_lots(store, (1, 1, 2, 2)), ((1, 3), (2, 1)))
        self.check_same(cheapest_lots(store, (1, 1, 1, 2)), ((1, 1), (2, 1)))
        self.check_same(cheapest_lots(store, (4, 5, 9, 9)), ((4, 3), (9, 1)))
        self.check_same(cheapest_lots(store, (9, 9, 9, 9)), ((9, 1), (18, 0)))

    def test_no_prices(self):
        for store in (STORE, SMALL):
            self.check_refuses(BadPrices, NO_PRICES, lambda value: cheapest_lots(store, value))
            self.check_refuses(BadPrices, NO_PRICES, lambda value: cheapest_lots(prices=value, store=store))
        self.check_refuses(BadPrices, [(1,), (1, 2, 3), (1, 2, 3, 4)], lambda value: cheapest_lots(FEW, value))
        for value in junk():
            self.check_keeps(BadPrices, value, cheapest_lots, STORE, value)

    def test_a_store_that_is_not_sound_has_prices(self):
        self.check_prices(STORE, (9, 8, 7, 6))
        for lot in all_lots("abcd")[1:]:
            self.check_prices(store_of(SHELF, (lot,), (lot[:1],)), (3, 1, 4, 1))


if __name__ == "__main__":
    unittest.main()
