"""Section 22: whether reads can miss, in all runs."""

import functools
import random
import unittest

from helper import Checks, alike, junk, near
from lotkeepers.allruns import misses, shows_misses
from lotkeepers.judging import missed
from lotkeepers.runs import Run
from lotkeepers.shelves import Shelf
from lotkeepers.sound import sound
from lotkeepers.stores import store_of
from test_bringing import NEVER
from test_judging import NONE, Told
from test_runs import ASKED, STORES, all_deeds, can_be_done, drawn_deeds, drawn_runs, first_wrong, of_word
from test_shelves import SHELF
from test_sound import SMALL, drawn_stores, is_sound
from test_stores import FULL, STORE

PAIR = Shelf("parts x\nkeeper a x\nkeeper b x")


def is_right(store, value):
    """By the words of the section, for any value."""
    if type(value) is not tuple or len(value) not in (1, 2) or value[0] != ("never" if len(value) == 1 else "run"):
        return False
    if len(value) == 1:
        return is_sound(store)
    return first_wrong(store, value[1]) is None and Told(store, value[1]).missed() != NONE


@functools.lru_cache(None)
def all_runs(text, writes, asks, most_writes, most_reads, backs):
    """All runs of a small store that begin so many writes and reads at the most: backs are those of the reads."""
    store = store_of(Shelf(text), writes, asks)
    every = [deed for deed in all_deeds(store) if deed[1] in range(3) and deed[0] in ("give", "ask", "again")]
    every += [("write", number, "1" * len(store.shelf.parts)) for number in range(len(writes))]
    every += [("read", number, back) for number in range(len(asks)) for back in backs]
    grown = [()]
    for deeds in grown:
        full = {"write": most_writes == len(of_word(deeds, "write")), "read": most_reads == len(of_word(deeds, "read"))}
        for deed in every:
            if not full.get(deed[0]) and can_be_done(store, deeds, deed):
                grown.append(deeds + (deed,))
    return grown


class TestMisses(Checks, unittest.TestCase):
    def check_store(self, store):
        made = misses(store=store)
        self.assertEqual(made[0], "never" if is_sound(store) else "run")
        self.assertTrue(is_right(store, made), (store.text, made))
        self.assertIs(shows_misses(store=store, value=made), True)
        if made[0] == "run":
            self.assertEqual(missed(Run(store, made[1]))[0], "missed")
        return made[0]

    def test_drawn_stores(self):
        kinds = [self.check_store(store) for store in list(drawn_stores(300)) + STORES + [STORE, SMALL, FULL]]
        self.assertGreater(min(kinds.count("never"), kinds.count("run")), 30)

    def test_shelves_that_never_bring_back(self):
        for shelf in NEVER:
            self.check_store(store_of(shelf, (shelf.circle.names,), (shelf.circle.names,)))
            self.check_store(store_of(shelf, (shelf.circle.names[:1],), (shelf.circle.names[1:],)))

    def test_never_in_drawn_runs_of_sound_stores(self):
        draw = random.Random(43)
        some = [store for store in list(drawn_stores(600)) + [SMALL] * 20 if is_sound(store)]
        ended = 0
        for store in some:
            for many in (16, 25, 40):
                deeds = drawn_deeds(draw, store, many)
                run = Run(store, deeds)
                self.check_same(missed(run), ("none",))
                self.assertIs(shows_misses(store, ("run", deeds)), False)
                ended += any(row[3] is not None and any(other[2] > row[3] for other in run.reads) for row in run.writes)
        self.assertGreater(ended, 20)

    def test_drawn_runs_that_miss(self):
        held = 0
        for store, deeds in drawn_runs(600, 44):
            right = Told(store, deeds).missed() != NONE
            held += right
            self.assertIs(shows_misses(store, ("run", deeds)), right)
        self.assertGreater(held, 50)

    def test_all_runs_of_small_stores(self):
        """Against all runs of one write and two reads, of two writes and one read, and of one of each, asked twice."""
        for writes, asks in (((("a",),), (("a",),)), ((("a",),), (("a", "b"),)), ((("a", "b"),), (("b",),)),
                             ((("a",),), (("b",),)),
                             ((("a",), ("b",)), (("a",), ("a", "b")))):
            store = store_of(PAIR, writes, asks)
            some = all_runs(PAIR.text, writes, asks, 1, 1, (None, 0)) + all_runs(PAIR.text, writes, asks, 2, 1, (None,))
            if len(writes) + len(asks) == 2:
                some = some + all_runs(PAIR.text, writes, asks, 1, 2, (None,))
            held = [deeds for deeds in some if missed(Run(store, deeds)) != ("none",)]
            self.assertEqual(held == [], is_sound(store))
            self.assertEqual(held == [], misses(store) == ("never",))
            for deeds in held[:200]:
                self.assertIs(shows_misses(store, ("run", deeds)), True)


class TestShows(Checks, unittest.TestCase):
    def test_near_right_values(self):
        for store in (STORE, SMALL, ASKED.with_ask(("c", "d")), store_of(PAIR, (("a",),), (("b",), ("a",)))):
            made = misses(store)
            for value in near(made) + junk() + [("run", value) for value in junk()] + [("never", ()), ("run",), ("none",),
                                                                                       ("never",), ["never"]]:
                self.assertIs(shows_misses(store, value), is_right(store, value), value)

    def test_runs_of_other_stores(self):
        deeds = misses(STORE)[1]
        self.assertIs(shows_misses(STORE, ("run", deeds)), True)
        self.assertIs(shows_misses(SMALL, ("run", deeds)), False)
        self.assertIs(shows_misses(STORE, ("run", Run(STORE, deeds))), False)
        self.assertIs(shows_misses(STORE, ("run", list(deeds))), False)
        self.assertIs(shows_misses(STORE, ("never",)), False)
        self.assertIs(shows_misses(SMALL, ("never",)), True)

    def test_longer_and_shorter_ones(self):
        deeds = misses(STORE)[1]
        for many in range(len(deeds)):
            self.assertIs(shows_misses(STORE, ("run", deeds[:many])), False)
        longer = deeds + (("write", 1, "11"),) * 5 + (("read", 0, None),) * 5
        self.assertIs(shows_misses(STORE, ("run", longer)), True)
        self.assertIs(shows_misses(STORE, ("run", longer + (("write", 1, "11"),))), False)
        self.assertIs(shows_misses(STORE, ("run", longer + (None,))), False)
        self.assertIs(shows_misses(STORE, ("run", (None,) * 41)), False)

    def test_sound_exactly_if_never(self):
        for store in drawn_stores(150):
            self.assertEqual(sound(store)[0] == "sound", misses(store) == ("never",))
            self.assertTrue(alike(shows_misses(store, ("never",)), is_sound(store)))

    def test_any_pair_of_lots_that_misses(self):
        """A read by any pair of lots that does not share enough is taken, whatever record was written."""
        for write in range(2):
            for ask in range(3):
                for record in ("00", "11", "01"):
                    deeds = (("write", write, record),) + tuple(("give", 1, name) for name in STORE.writes[write])
                    deeds += (("read", ask, 0),) + tuple(("ask", 0, name) for name in STORE.asks[ask])
                    self.assertIs(shows_misses(STORE, ("run", deeds)), (write, ask) == (0, 0))
        self.assertEqual(SHELF, STORE.shelf)


if __name__ == "__main__":
    unittest.main()
