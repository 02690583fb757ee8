"""Section 15: the freest lots."""

import unittest

from helper import Checks, all_lots, has_family, least_lots
from lotkeepers.errors import Unserved
from lotkeepers.freest import askers, freed, writers
from lotkeepers.stores import store_of
from test_bringing import NEVER, is_back
from test_shelves import SHELF, SHELVES
from test_sound import FEW, SMALL, drawn_stores, is_sound
from test_stores import STORE

SIX = store_of(SHELVES[3], (("f", "e", "d", "c"), ("e", "d", "c", "b", "a")), (("f", "e", "d", "c", "b", "a"), ("f", "e", "d", "b")))


def crossing(lot, other):
    return tuple(name for name in lot if name in other)


def serving(shelf, some):
    """The least lots that serve some lots, by going through all lots and all records."""
    names = shelf.circle.names
    return least_lots(names, [lot for lot in all_lots(names) if all(is_back(shelf, crossing(lot, row)) for row in some)])


def unserved(shelf, some):
    """The numbers of those of some lots that do not bring back by themselves."""
    return [number for number, lot in enumerate(some) if not is_back(shelf, lot)]


class TestFreest(Checks, unittest.TestCase):
    def check_store(self, store):
        wrong = unserved(store.shelf, store.writes)
        if wrong:
            self.check_raises(Unserved, wrong[0], askers, store)
            self.check_raises(Unserved, wrong[0], freed, store=store)
        else:
            asks = serving(store.shelf, store.writes)
            self.check_same(askers(store=store), asks)
            self.check_same(freed(store=store), (serving(store.shelf, asks), asks))
        wrong = unserved(store.shelf, store.asks)
        if wrong:
            self.check_raises(Unserved, wrong[0], writers, store)
        else:
            self.check_same(writers(store=store), serving(store.shelf, store.asks))

    def test_drawn_stores(self):
        for store in drawn_stores(250):
            self.check_store(store)

    def test_other_stores(self):
        for store in (STORE, SMALL, FEW, SIX):
            self.check_store(store)

    def test_first_lot_that_is_not_enough(self):
        store = store_of(SHELF, (("a", "b"), ("d",), ("c",), ("a",)), (("a",), ("d",)))
        self.check_raises(Unserved, 2, askers, store)
        self.check_raises(Unserved, 2, freed, store)
        self.check_raises(Unserved, 0, writers, store)
        for shelf in NEVER:
            store = store_of(shelf, (shelf.circle.names,), (shelf.circle.names,))
            for call in (askers, writers, freed):
                self.check_raises(Unserved, 0, call, store)

    def test_all_keepers_alone(self):
        store = store_of(SHELF, (("a", "b", "c", "d"),), (("a", "b", "c", "d"),))
        right = (("d",), ("a", "b"), ("a", "c"), ("b", "c"))
        self.check_same(askers(store), right)
        self.check_same(writers(store), right)
        self.check_same(freed(store), (serving(SHELF, right), right))

    def test_sound_exactly_if_each_lot_has_them(self):
        for store in [STORE, SMALL, FEW, SIX] + list(drawn_stores(250)):
            if not unserved(store.shelf, store.writes):
                self.assertEqual(is_sound(store), all(has_family(askers(store), lot) for lot in store.asks))
            if not unserved(store.shelf, store.asks):
                self.assertEqual(is_sound(store), all(has_family(writers(store), lot) for lot in store.writes))

    def test_freed_once_is_freed(self):
        for store in [STORE, SMALL, FEW, SIX] + list(drawn_stores(100)):
            if unserved(store.shelf, store.writes):
                continue
            writes, asks = freed(store)
            self.assertTrue(all(has_family(writes, lot) for lot in store.writes))
            self.check_same(serving(store.shelf, writes), asks)


if __name__ == "__main__":
    unittest.main()
