"""Section 24: asked twice."""

import random
import unittest

from helper import Checks
from lotkeepers.errors import TooLong
from lotkeepers.judging import turned
from lotkeepers.runs import Run
from lotkeepers.twice import doubled, owed
from test_judging import Told
from test_runs import ASKED, CROSSED, drawn_deeds, drawn_runs, first_wrong
from test_turning import sound_stores


def right_doubled(store, deeds):
    """Deed by deed, by the words of the section."""
    made, asked_once = [], {}
    for number, deed in enumerate(deeds):
        made.append(("read", deed[1], 0) if deed[0] == "read" and deed[2] is None else deed)
        if deed[0] == "read":
            asked_once[len(asked_once)] = deed
        if deed[0] != "ask" or asked_once[deed[1]][2] is not None:
            continue
        lot = store.asks[asked_once[deed[1]][1]]
        if all(("ask", deed[1], keeper) in deeds[:number + 1] for keeper in lot):
            made += [("again", deed[1], keeper) for keeper in store.writes[0]]
    return tuple(made)


def right_owed(told):
    """By the words of the section."""
    rows = []
    for row in told.reads:
        stamps = [0]
        stamps += [stamp for stamp, other in enumerate(told.writes, start=1) if other[3] is not None and other[3] < row[2]]
        stamps += [stamp for stamp, other in zip(told.brought, told.reads) if other[1] is not None and other[3] is not None
                   and other[3] < row[2]]
        rows.append(max(stamps))
    return tuple(rows)


class TestDoubled(Checks, unittest.TestCase):
    def test_drawn_runs(self):
        held = {"long": 0, "alike": 0, "other": 0, "heard": 0}
        for store, deeds in drawn_runs(500, 47):
            right = right_doubled(store, deeds)
            run = Run(store, deeds)
            if len(right) > 40:
                held["long"] += 1
                self.check_raises(TooLong, len(right), doubled, run)
                self.check_raises(TooLong, len(right), doubled, run=run)
                continue
            made = doubled(run=run)
            held["alike" if made == deeds else "other"] += 1
            held["heard"] += len(made) > len(deeds)
            self.check_same(made, right)
            self.assertIsNone(first_wrong(store, made))
            other = Run(store, made)
            self.assertEqual((len(other.writes), len(other.reads)), (len(run.writes), len(run.reads)))
            self.assertFalse([row for row in other.reads if row[1] is None])
            self.check_same(doubled(other), made)
        self.assertGreater(min(held.values()), 20, held)

    def test_reads_that_have_not_heard(self):
        deeds = (("read", 0, None), ("write", 0, "11"), ("ask", 0, "b"))
        self.check_same(doubled(Run(ASKED, deeds)), (("read", 0, 0),) + deeds[1:])
        self.check_same(doubled(Run(ASKED, ())), ())

    def test_directly_behind_the_deed_by_which_it_had_heard(self):
        deeds = (("write", 1, "01"), ("read", 1, None), ("ask", 0, "d"), ("give", 1, "c"), ("ask", 0, "b"), ("read", 2, None),
                 ("give", 1, "d"), ("ask", 1, "b"))
        agains = tuple(("again", 0, name) for name in "ab"), tuple(("again", 1, name) for name in "ab")
        made = doubled(Run(CROSSED, deeds))
        self.check_same(made, (deeds[0], ("read", 1, 0)) + deeds[2:5] + agains[0] + (("read", 2, 0),) + deeds[6:] + agains[1])

    def test_reads_that_were_asked_twice_stay_as_they_are(self):
        deeds = (("read", 2, 2), ("ask", 0, "b"), ("read", 2, None), ("ask", 1, "b"), ("again", 0, "d"))
        made = doubled(Run(CROSSED, deeds))
        self.check_same(made, (deeds[0], deeds[1], ("read", 2, 0), deeds[3], ("again", 1, "a"), ("again", 1, "b"), deeds[4]))

    def test_just_forty_and_more(self):
        deeds = tuple(deed for read in range(6) for deed in (("read", 2, None), ("ask", read, "b")))
        gives = (("write", 0, "11"), ("give", 1, "a"), ("give", 1, "b"), ("write", 1, "11"), ("give", 2, "c"),
                 ("give", 2, "d")) \
            + tuple(("write", 2, "00") for _ in range(4)) + tuple(("give", stamp, "d") for stamp in (3, 4, 5, 6))
        self.check_same(len(doubled(Run(CROSSED, deeds + gives))), 12 + 12 + 14)
        more = deeds + gives[:14] + (("write", 0, "11"),)
        self.assertEqual(first_wrong(CROSSED, more), 27)
        # Two deeds more make forty, with a read that does not hear; one that hears makes more than forty.
        short = tuple(deed for read in range(5) for deed in (("read", 2, None), ("ask", read, "b")))
        right = short + gives + (("read", 0, None),)
        self.check_same(len(doubled(Run(CROSSED, right))), 10 + 10 + 14 + 1)
        full = short + gives + (("read", 0, None), ("ask", 5, "a"), ("ask", 5, "c"))
        self.check_same(len(doubled(Run(CROSSED, full))), 39)
        store = CROSSED.with_ask(("a", "c", "d"))
        full = short + gives + (("read", 3, None), ("ask", 5, "a"), ("ask", 5, "c"), ("ask", 5, "d"))
        self.check_same(len(doubled(Run(store, full))), 40)
        store = CROSSED.with_ask(("a", "b", "c", "d"))
        full = short + gives + (("read", 3, None), ("ask", 5, "a"), ("ask", 5, "c"), ("ask", 5, "d"), ("ask", 5, "b"))
        self.check_raises(TooLong, 41, doubled, Run(store, full))

    def test_stamps_may_be_other(self):
        deeds = (("write", 0, "10"), ("give", 1, "a"), ("give", 1, "b"), ("read", 0, None), ("ask", 0, "a"), ("ask", 0, "b"),
                 ("read", 2, None),
                 ("ask", 1, "b"), ("ask", 1, "c"))
        run = Run(ASKED, deeds)
        other = Run(ASKED, doubled(run))
        self.check_same((run.brought(1), other.brought(1), turned(run), turned(other)), (0, 1, ("turned", 0, 1), ("none",)))


class TestOwed(Checks, unittest.TestCase):
    def test_drawn_runs(self):
        held = []
        for store, deeds in drawn_runs(800, 48):
            right = right_owed(Told(store, deeds))
            held.append(right)
            self.check_same(owed(run=Run(store, deeds)), right)
        self.assertGreater(len([row for row in held if any(row)]), 50)
        self.assertGreater(len([row for row in held if row and not any(row)]), 50)

    def test_reads_of_sound_stores_bring_as_much_at_least(self):
        draw = random.Random(49)
        more, least = 0, 0
        for store in sound_stores(500):
            for many in (20, 40):
                run = Run(store, drawn_deeds(draw, store, many))
                for read, stamp in enumerate(owed(run)):
                    if run.brought(read) is not None:
                        self.assertGreaterEqual(run.brought(read), stamp)
                        more += run.brought(read) > stamp
                        least += run.brought(read) == stamp > 0
        self.assertGreater(min(more, least), 20)

    def test_each_kind_that_had_ended(self):
        writes = (("write", 0, "10"), ("give", 1, "a"), ("give", 1, "b"))
        read = (("read", 0, None), ("ask", 0, "a"), ("ask", 0, "b"))
        twice = (("read", 0, 0),) + read[1:] + tuple(("again", 0, name) for name in "ab")
        more = (("read", 2, None),)
        for deeds, right in ((writes + read + more, (0, 0)), (writes + (("give", 1, "c"),) + read + more, (1, 1)),
                             (writes + read[:1] + (("give", 1, "c"),) + read[1:] + more, (0, 1)),
                             (writes + twice + more, (0, 0)),
                             (writes + twice + (("again", 0, "c"),) + more, (0, 1)),
                             (writes + twice + more + (("again", 0, "c"),), (0, 0)),
                             (twice + (("again", 0, "c"),) + more, (0, 0)), ((), ()), (read[:1], (0,)), (more, (0,))):
            self.check_same(owed(Run(ASKED, deeds)), right)

    def test_the_greatest(self):
        deeds = (("write", 2, "10"), ("write", 2, "01"), ("give", 2, "d"), ("give", 1, "d"), ("read", 2, None),
                 ("write", 2, "11"), ("read", 2, None),
                 ("give", 3, "d"), ("read", 2, 0))
        self.check_same(owed(Run(CROSSED, deeds)), (2, 2, 3))

    def test_reads_that_brought_more_than_writes_that_had_ended(self):
        store = ASKED.with_ask(("a", "b", "c", "d"))
        deeds = (("write", 0, "10"), ("give", 1, "a"), ("give", 1, "b"), ("give", 1, "c"), ("write", 0, "01"), ("give", 2, "a"),
                 ("give", 2, "b"),
                 ("read", 0, 0), ("ask", 0, "a"), ("ask", 0, "b"), ("again", 0, "a"), ("again", 0, "b"), ("again", 0, "c"),
                 ("read", 3, None))
        self.check_same(owed(Run(store, deeds)), (1, 2))
        self.check_same(owed(Run(store, deeds[:12] + deeds[13:])), (1, 1))


if __name__ == "__main__":
    unittest.main()
