"""Section 23: whether reads turn about, in all runs."""

import itertools
import random
import unittest

from helper import Checks, all_lots, inside, junk, least_lots, one_of
from lotkeepers.errors import BadLot, NoLot, NoTurn, Unsound
from lotkeepers.judging import turned
from lotkeepers.runs import Run
from lotkeepers.shelves import Shelf
from lotkeepers.sound import sound
from lotkeepers.stores import store_of
from lotkeepers.turning import shows_steady, steady, turning_run
from test_allruns import PAIR, all_runs
from test_bringing import NEVER, is_back
from test_families import NO_LOT
from test_judging import Told
from test_runs import ASKED, CROSSED, NO_NUMBERS, STORES, drawn_deeds, spans
from test_shelves import SHELF
from test_sound import FEW, SMALL, drawn_stores, is_sound
from test_stores import FULL, STORE

THREE = store_of(Shelf("parts x\nkeeper a x\nkeeper b x\nkeeper c x"), (("a", "b"), ("b", "c")),
                 (("a", "b"), ("a", "b", "c"), ("b", "c")))


def sound_stores(many):
    """Drawn stores that are sound, and some that are known to be."""
    return [store for store in list(drawn_stores(many)) + STORES + [THREE] if is_sound(store)]


def least_ones(shelf):
    """The least lots that bring back, by all records."""
    names = shelf.circle.names
    return least_lots(names, [lot for lot in all_lots(names) if is_back(shelf, lot)])


def right_turns(store):
    """All ways in which reads turn about, by the words of the section."""
    numbers = itertools.product(range(len(store.writes)), range(len(store.asks)), range(len(store.asks)))
    return [("turns", write, first, second, lot) for write, first, second in numbers for lot in least_ones(store.shelf)
            if inside(lot, store.writes[write]) and inside(lot, store.asks[first]) and not inside(lot, store.asks[second])]


def told_deeds(store, write, first, second, lot):
    """The deeds as the section tells them."""
    deeds = [("write", write, "1" * len(store.shelf.parts))] + [("give", 1, name) for name in lot]
    for read, ask in enumerate((first, second)):
        deeds += [("read", ask, None)] + [("ask", read, name) for name in store.asks[ask]]
    return tuple(deeds)


class TestSteady(Checks, unittest.TestCase):
    def test_drawn_stores(self):
        kinds = []
        for store in sound_stores(500):
            rights = right_turns(store) or [("steady",)]
            made = steady(store=store)
            kinds.append(made[0])
            self.assertTrue(one_of(rights)(made), (store.text, made))
            for value in rights + [made]:
                self.assertIs(shows_steady(store=store, value=value), True)
            self.assertIs(shows_steady(store, ("steady",)), made == ("steady",))
        self.assertGreater(min(kinds.count("steady"), kinds.count("turns")), 20)

    def test_steady_exactly_if_each_least_lot_lies_within_all_reading_lots(self):
        for store in sound_stores(200):
            held = [lot for lot in least_ones(store.shelf) if any(inside(lot, write) and inside(lot, ask)
                                                                    for write in store.writes for ask in store.asks)]
            self.assertEqual(steady(store) == ("steady",), all(inside(lot, ask) for lot in held for ask in store.asks))

    def test_near_right_values(self):
        for store in [SMALL, ASKED, THREE, FEW, ASKED.without_ask(0).without_ask(0)] + sound_stores(100)[:6]:
            rights = right_turns(store) or [("steady",)]
            self.check_shows(shows_steady, (store,), one_of(rights), rights[:4] + rights[-2:])

    def test_all_numbers_and_lots(self):
        many_writes = store_of(THREE.shelf, (("a", "b", "c"), ("b", "c"), ("a", "b")), (("a", "b"), ("b", "c")))
        for store in (THREE, ASKED, many_writes):
            rights = right_turns(store)
            self.assertIs(shows_steady(store, ("steady",)), rights == [])
            for numbers in itertools.product(range(-1, 4), repeat=3):
                for lot in all_lots(store.shelf.circle.names) + [None, ["a"], ("z",), "a", ("b", "a")]:
                    value = ("turns",) + numbers + (lot,)
                    self.assertIs(shows_steady(store, value), one_of(rights)(value), value)

    def test_unsound_ones(self):
        never = store_of(NEVER[1], (("a", "b", "c"),), (("a", "b", "c"),))
        for store in [STORE, FULL, CROSSED, never] + [store for store in drawn_stores(60) if not is_sound(store)]:
            self.check_raises(Unsound, sound(store), steady, store)
            for value in (("steady",), None, ("turns", 0, 0, 1, ("a", "b"))):
                self.check_raises(Unsound, sound(store), shows_steady, store, value)

    def test_one_reading_lot_is_steady(self):
        for store in sound_stores(100):
            while len(store.asks) > 1:
                store = store.without_ask(0)
            self.check_same(steady(store), ("steady",))


class TestAllRuns(Checks, unittest.TestCase):
    """What is told of all runs is so in those that are drawn, and in all small ones."""

    def test_drawn_runs(self):
        draw = random.Random(45)
        ended = 0
        for store in sound_stores(500):
            for many in (20, 30, 40):
                run = Run(store, drawn_deeds(draw, store, many))
                told = Told(store, run.deeds)
                turns = [row for row in told.turned() if row != ("none",)]
                ended += len([row for row in run.reads if row[3] is not None]) > 1
                if steady(store) == ("steady",):
                    self.assertFalse([row for row in turns if run.reads[row[1]][1] is None], run.deeds)
                # Whoever was asked twice is never turned about.
                self.assertFalse([row for row in turns if run.reads[row[1]][1] is not None], run.deeds)
        self.assertGreater(ended, 100)

    def test_drawn_runs_of_steady_stores(self):
        draw = random.Random(46)
        for store in [store for store in sound_stores(300) if steady(store) == ("steady",)]:
            for many in (25, 40):
                run = Run(store, drawn_deeds(draw, store, many))
                self.check_same(turned(run), ("none",))

    def test_all_runs_of_small_stores(self):
        """Against all runs of one write and two reads."""
        for writes, asks, right in (((("a",),), (("a",),), True), ((("a", "b"),), (("a",), ("b",)), False)):
            store = store_of(PAIR, writes, asks)
            some = all_runs(PAIR.text, writes, asks, 1, 2, (None,))
            held = [run for run in (Run(store, deeds) for deeds in some) if turned(run) != ("none",)]
            self.assertEqual((held == [], steady(store) == ("steady",)), (right, right))


class TestTurningRun(Checks, unittest.TestCase):
    def test_each_way_that_turns_about(self):
        many = 0
        for store in [ASKED, THREE, FULL, STORE, CROSSED] + list(drawn_stores(150)):
            for word, write, first, second, lot in right_turns(store):
                many += 1
                run = turning_run(store=store, write=write, first=first, second=second, lot=lot)
                self.assertIs(type(run), Run)
                self.assertEqual(run.store, store)
                self.check_same(run.deeds, told_deeds(store, write, first, second, lot))
                self.check_same(turned(run), ("turned", 0, 1))
                self.assertTrue(run == turning_run(store, write, first, second, lot))
        self.assertGreater(many, 150)

    def test_all_others_do_not_turn(self):
        for store in (THREE, ASKED, CROSSED):
            rights = right_turns(store)
            for numbers in itertools.product(range(len(store.writes)), range(len(store.asks)), range(len(store.asks))):
                for lot in all_lots(store.shelf.circle.names):
                    if ("turns",) + numbers + (lot,) not in rights:
                        self.check_keeps(NoTurn, lot, turning_run, store, *numbers, lot)

    def test_shelves_that_never_bring_back(self):
        for shelf in NEVER:
            store = store_of(shelf, (shelf.circle.names,), (shelf.circle.names, shelf.circle.names[:1]))
            for lot in all_lots(shelf.circle.names):
                self.check_keeps(NoTurn, lot, turning_run, store, 0, 0, 1, lot)

    def test_wrong_arguments(self):
        for store in (ASKED, STORE, CROSSED):
            wrong = NO_NUMBERS + [8]
            lot = ("a", "b")
            self.check_refuses(NoLot, wrong + [len(store.writes)], lambda value: turning_run(store, value, 0, 2, lot))
            self.check_refuses(NoLot, wrong + [3], lambda value: turning_run(store, 0, value, 2, lot))
            self.check_refuses(NoLot, wrong + [3], lambda value: turning_run(store, 0, 0, value, lot))
            self.check_refuses(NoLot, wrong + [3], lambda value: turning_run(lot=lot, second=value, first=0, write=0,
                                                                             store=store))
            self.check_refuses(BadLot, NO_LOT, lambda value: turning_run(store, 0, 0, 2, value))
            self.check_refuses(BadLot, NO_LOT, lambda value: turning_run(store, 0, 0, 0, lot=value))

    def test_the_first_of_several(self):
        for value in NO_NUMBERS:
            self.check_keeps(NoLot, value, turning_run, ASKED, value, "first", "second", None)
            self.check_keeps(NoLot, value, turning_run, ASKED, 0, value, "second", None)
            self.check_keeps(NoLot, value, turning_run, ASKED, 0, 0, value, ("z",))
        for value in junk():
            if value not in [lot for lot in all_lots("abcd")]:
                self.check_keeps(BadLot, value, turning_run, ASKED, 0, 1, 1, value)

    def test_near_turns(self):
        self.check_same(turning_run(ASKED, 0, 0, 2, ("a", "b")).brought(0), 1)
        # Not within the first, within the second, not a least one, not within the writing lot.
        for numbers, lot in (((0, 0, 2), ("a", "c")), ((0, 1, 0), ("a", "b")), ((0, 1, 0), ("a", "b", "c")),
                             ((0, 1, 2), ("d",)), ((0, 1, 2), ()),
                             ((0, 0, 2), ("a",)), ((0, 0, 0), ("a", "b"))):
            self.check_keeps(NoTurn, lot, turning_run, ASKED, *numbers, lot)

    def test_both_reads_stand_alone(self):
        run = turning_run(THREE, 0, 0, 2, ("a",))
        self.check_same(spans(THREE, run.deeds), (run.writes, run.reads))
        self.check_same((run.brought(0), run.brought(1), run.record(1)), (1, 0, "1"))
        self.assertEqual(SHELF, ASKED.shelf)


if __name__ == "__main__":
    unittest.main()
