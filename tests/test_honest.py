"""Section 28: stores with liars."""

import itertools
import random
import unittest

from helper import Checks, all_lots, least_lots, one_of
from lotkeepers.errors import BadBound, Unserved, Unsound
from lotkeepers.freest import askers
from lotkeepers.honest import honest, honest_askers, most_lies, shows_honest
from lotkeepers.lies import shows_overruled
from lotkeepers.sound import sound
from lotkeepers.stores import store_of
from test_bringing import NEVER
from test_freest import SIX, crossing
from test_lies import BOUNDS, FIVE, KEEP, NO_BOUNDS, SIX_KEEP, TWO_EACH, is_sure, right_opens
from test_runs import NO_NUMBERS
from test_shelves import SHELF
from test_sound import SMALL, drawn_stores, is_sound, met, pairs
from test_stores import FULL, STORE

WIDE = store_of(KEEP, (("a", "b", "c", "d"),), (("a", "b", "c"), ("b", "c", "d")))
ALL_SIX = store_of(SIX_KEEP, (tuple("fedcba"),), (tuple("fedcba"), tuple("edcba"), tuple("fedca")))
STORES = [WIDE, WIDE.with_ask(("a", "b")), STORE, SMALL, FULL, SIX, ALL_SIX, ALL_SIX.without_ask(0), ALL_SIX.without_ask(1),
          ALL_SIX.without_ask(2),
          ALL_SIX.with_ask(tuple("fdcb")), store_of(TWO_EACH, (("c", "a", "b"),), (("c", "a", "b"),))]


def wide_stores(many):
    """Stores of shelves with many alike keepers, with wide lots."""
    draw = random.Random(28)
    for _ in range(many):
        shelf = draw.choice((KEEP, SIX_KEEP, TWO_EACH, FIVE))
        every = all_lots(shelf.circle.names)
        wide = [lot for lot in every if len(lot) > len(shelf.circle) - draw.choice((1, 2, 3))]
        yield store_of(shelf, tuple(draw.sample(wide, min(len(wide), draw.randint(1, 2)))),
                       tuple(draw.sample(wide, min(len(wide), draw.randint(1, 3)))))


def right_misses(store, bound):
    return [("misses", write, ask) + row[1:] for write, ask in pairs(store)
            for row in right_opens(store.shelf, met(store, write, ask), bound)]


def every_store():
    return STORES + list(wide_stores(80)) + list(drawn_stores(60))


class TestHonest(Checks, unittest.TestCase):
    def test_by_section_26(self):
        kinds = []
        for store in every_store():
            for bound in BOUNDS:
                right = all(is_sure(store.shelf, met(store, write, ask), bound) for write, ask in pairs(store))
                made = honest(store=store, bound=bound)
                kinds.append(made[0] + str(bound))
                self.assertEqual(made[0], "sound" if right else "misses")
                self.assertIs(shows_honest(store=store, bound=bound, value=made), True)
                self.assertIs(shows_honest(store, bound, ("sound",)), right)
                if right:
                    self.check_same(made, ("sound",))
                else:
                    self.assertEqual(len(made), 6)
                    self.assertIs(shows_overruled(store.shelf, met(store, made[1], made[2]), bound, ("open",) + made[3:]), True)
        for kind in ("sound0", "sound1", "sound2", "misses0", "misses1", "misses3"):
            self.assertGreater(kinds.count(kind), 4, kind)

    def test_bound_nought(self):
        for store in every_store():
            self.assertEqual(honest(store, 0) == ("sound",), is_sound(store))
            self.assertEqual(honest(store, 0) == ("sound",), sound(store)[0] == "sound")
            self.assertIs(shows_honest(store, 0, ("sound",)), is_sound(store))

    def test_near_right_values(self):
        for store, bound in ((WIDE, 1), (WIDE, 2), (STORES[1], 1), (SMALL, 0), (SMALL, 1), (STORE, 0)):
            rights = right_misses(store, bound) or [("sound",)]
            self.check_shows(shows_honest, (store, bound), one_of(rights), rights[:3] + rights[-3:])

    def test_all_right_rows_and_numbers(self):
        for store, bound in ((STORES[1], 1), (STORE, 0), (SMALL, 1)):
            rights = right_misses(store, bound)
            self.assertTrue(rights)
            for value in rights[::3]:
                self.assertIs(shows_honest(store, bound, value), True)
            for write, ask in itertools.product(range(-1, 3), range(-1, 4)):
                for row in sorted({row[3:] for row in rights})[::7]:
                    value = ("misses", write, ask) + row
                    self.assertIs(shows_honest(store, bound, value), one_of(rights)(value), value)
            for value in NO_NUMBERS:
                self.assertIs(shows_honest(store, bound, ("misses", value) + rights[0][2:]), False)
                self.assertIs(shows_honest(store, bound, rights[0][:2] + (value,) + rights[0][3:]), False)

    def test_wrong_bounds(self):
        for call in (honest, honest_askers, lambda store, bound: shows_honest(store, bound, ("sound",)), lambda store,
                     bound: shows_honest(store, bound, None)):
            for store in (WIDE, STORE):
                self.check_refuses(BadBound, NO_BOUNDS, lambda value: call(store, value))
                self.check_refuses(BadBound, NO_BOUNDS, lambda value: call(bound=value, store=store))

    def test_fewer_lies(self):
        for store in every_store():
            held = [honest(store, bound) == ("sound",) for bound in BOUNDS]
            self.assertEqual(held, sorted(held, reverse=True))


class TestMostLies(Checks, unittest.TestCase):
    def test_by_going_through_all_bounds(self):
        found = []
        for store in every_store():
            if is_sound(store):
                right = max(bound for bound in BOUNDS if all(is_sure(store.shelf, met(store, write, ask), bound) for write,
                                                             ask in pairs(store)))
                found.append(right)
                self.check_same(most_lies(store=store), right)
        self.assertEqual(sorted(set(found)), [0, 1, 2])

    def test_unsound_ones(self):
        never = store_of(NEVER[0], (("a", "b"),), (("a", "b"),))
        for store in [STORE, FULL, never] + [store for store in drawn_stores(60) if not is_sound(store)]:
            self.check_raises(Unsound, sound(store), most_lies, store)
            self.check_raises(Unsound, sound(store), most_lies, store=store)


class TestHonestAskers(Checks, unittest.TestCase):
    def test_by_going_through_all_lots(self):
        kinds = []
        for store in every_store():
            for bound in BOUNDS:
                wrong = [number for number, lot in enumerate(store.writes) if not is_sure(store.shelf, lot, bound)]
                kinds.append(bool(wrong))
                if wrong:
                    self.check_raises(Unserved, wrong[0], honest_askers, store, bound)
                    continue
                names = store.shelf.circle.names
                right = [lot for lot in all_lots(names) if all(is_sure(store.shelf, crossing(lot, write), bound)
                                                               for write in store.writes)]
                self.check_same(honest_askers(store=store, bound=bound), least_lots(names, right))
        self.assertGreater(min(kinds.count(True), kinds.count(False)), 50)

    def test_bound_nought_is_askers(self):
        for store in every_store():
            wrong = [number for number, lot in enumerate(store.writes) if not is_sure(store.shelf, lot, 0)]
            if wrong:
                self.check_raises(Unserved, wrong[0], askers, store)
                self.check_raises(Unserved, wrong[0], honest_askers, store, 0)
            else:
                self.check_same(honest_askers(store, 0), askers(store))

    def test_the_first_one_that_is_not_sure(self):
        store = store_of(KEEP, (("a", "b", "c"), ("b", "c", "d"), ("a", "b"), ("d",)), (("a",),))
        self.check_raises(Unserved, 2, honest_askers, store, 1)
        self.check_raises(Unserved, 0, honest_askers, store, 2)
        self.check_same(honest_askers(store.without_write(3).without_write(2), 1), (("a", "b", "c", "d"),))
        self.check_raises(Unserved, 0, honest_askers, store_of(SHELF, (("a", "b", "c"),), (("a",),)), 1)


if __name__ == "__main__":
    unittest.main()
