"""Section 19: judged runs."""

import functools
import unittest

from helper import Checks, one_of
from lotkeepers.judging import early, missed, shows_missed, shows_turned, turned
from lotkeepers.runs import Run
from lotkeepers.stores import store_of
from test_runs import ASKED, CROSSED, brought_by, drawn_runs, spans
from test_shelves import SHELF

NONE = [("none",)]


class Told:
    """What a run comes to, by the words of section 18, from its deeds alone."""

    def __init__(self, store, deeds):
        self.writes, self.reads = spans(store, deeds)
        text, asks = store.shelf.text, store.asks
        self.brought = [brought_by(text, asks, deeds, read) for read in range(len(self.reads))]
        self.heard = [max(deeds.index(("ask", read, keeper)) for keeper in asks[row[0]]) if stamp is not None else None
                      for read, (row, stamp) in enumerate(zip(self.reads, self.brought))]

    def ended_ahead(self, row, at):
        return row[3] is not None and row[3] < at

    def missed(self):
        rights = []
        for read, stamp in enumerate(self.brought):
            for other, row in enumerate(self.writes, start=1):
                if stamp is not None and self.ended_ahead(row, self.reads[read][2]) and other > stamp:
                    rights.append(("missed", read, other))
        return rights or NONE

    def turned(self):
        rights = []
        for first, stamp in enumerate(self.brought):
            for second, other in enumerate(self.brought):
                if None not in (stamp, other) and self.ended_ahead(self.reads[first], self.reads[second][2]) and stamp > other:
                    rights.append(("turned", first, second))
        return rights or NONE

    def early(self):
        return tuple(read for read, stamp in enumerate(self.brought)
                     if stamp and not self.ended_ahead(self.writes[stamp - 1], self.heard[read]))


@functools.lru_cache(None)
def many_runs():
    """Drawn runs, and runs of stores in which reads miss and turn about, each with what it comes to."""
    return [(Run(*row), Told(*row)) for row in list(drawn_runs(1500, 22)) + list(told_runs())]


def told_runs():
    deeds = (("write", 0, "10"), ("give", 1, "a"), ("give", 1, "b"))
    reads = ()
    for read, number in enumerate((0, 2, 1, 2)):
        reads += (("read", number, None),) + tuple(("ask", read, keeper) for keeper in ASKED.asks[number])
    yield ASKED, deeds + reads
    yield ASKED, deeds + (("give", 1, "c"),) + reads
    yield CROSSED, (("write", 2, "11"), ("give", 1, "d"), ("write", 2, "01"), ("give", 2, "d"), ("read", 0, None),
                    ("read", 2, None),
                    ("ask", 0, "a"), ("ask", 1, "b"), ("ask", 0, "c"), ("read", 1, None), ("ask", 2, "b"), ("ask", 2, "d"))


class TestJudged(Checks, unittest.TestCase):
    def check_all(self, call, shows, rows):
        seen = {True: 0, False: 0}
        for run, rights in rows:
            made = call(run=run)
            self.assertTrue(one_of(rights)(made), (run.deeds, made, rights))
            seen[rights == NONE] += 1
            for value in rights:
                self.assertIs(shows(run=run, value=value), True)
            for value in [("none",), ("missed", 0, 1), ("turned", 0, 1)]:
                self.assertIs(shows(run, value), value in rights)
        self.assertGreater(min(seen.values()), 20, seen)

    def test_missed(self):
        self.check_all(missed, shows_missed, [(run, told.missed()) for run, told in many_runs()])

    def test_turned(self):
        self.check_all(turned, shows_turned, [(run, told.turned()) for run, told in many_runs()])

    def test_early(self):
        held = []
        for run, told in many_runs():
            held.append(told.early())
            self.check_same(early(run=run), held[-1])
        self.assertGreater(len([row for row in held if row]), 20)
        self.assertGreater(held.count(()), 20)

    def test_near_right_values(self):
        rows = many_runs()
        for call, shows in (("missed", shows_missed), ("turned", shows_turned)):
            some = [(run, getattr(told, call)()) for run, told in rows]
            wrong = [row for row in some if row[1] != NONE]
            most = sorted(wrong, key=lambda row: -len(row[1]))
            for run, rights in most[:8] + wrong[:8] + [row for row in some if row[1] == NONE][:8]:
                self.check_shows(shows, (run,), one_of(rights), rights)

    def test_all_pairs_of_numbers(self):
        for run, told in many_runs()[::10]:
            for one in range(-2, 7):
                for other in range(-2, 7):
                    self.assertIs(shows_missed(run, ("missed", one, other)), ("missed", one, other) in told.missed())
                    self.assertIs(shows_turned(run, ("turned", one, other)), ("turned", one, other) in told.turned())


class TestEnds(Checks, unittest.TestCase):
    """Runs that miss by little."""

    STORE = store_of(SHELF, (("a", "b"), ("d",)), (("a", "b"), ("d",)))

    def deeds(self, text):
        """Deeds in short, all of d: w begins a write, g gives, r and s begin reads asked once and twice, q asks, n gives again."""
        made, writes, reads, gives, asks, agains = [], 0, 0, 0, 0, 0
        for word in text:
            if word == "w":
                writes += 1
                made.append(("write", 1, "10"))
            elif word == "g":
                gives += 1
                made.append(("give", gives, "d"))
            elif word in "rs":
                reads += 1
                made.append(("read", 1, None if word == "r" else 1))
            elif word == "q":
                made.append(("ask", asks, "d"))
                asks += 1
            else:
                made.append(("again", agains, "d"))
                agains += 1
        return tuple(made)

    def test_one_keeper(self):
        for text, right in (("wgrq", ()), ("wrgq", (0,)), ("wgrqrq", ()), ("", ()), ("rqwgrq", ()), ("wrqgrq", ()),
                            ("wwgsqnrq", ())):
            run = Run(self.STORE, self.deeds(text))
            self.check_same((missed(run), turned(run)), (("none",), ("none",)))
            self.assertIs(shows_missed(run, ("none",)), True)
            self.assertIs(shows_turned(run, ("none",)), True)
        # The give that brings it ends the write, so no read of one keeper is early.
        for text in ("wgrq", "wrgq", "wrqg"):
            self.check_same(early(Run(self.STORE, self.deeds(text))), ())

    def test_missed_by_the_begin(self):
        ahead = (("write", 0, "10"), ("give", 1, "a"))
        asks = (("ask", 0, "d"),)
        for deeds, right in ((ahead + (("give", 1, "b"), ("read", 1, None)) + asks, ("missed", 0, 1)),
                             (ahead + (("read", 1, None), ("give", 1, "b")) + asks, ("none",)),
                             (ahead + (("give", 1, "b"), ("read", 1, None)), ("none",)),
                             (ahead + (("read", 1, None),) + asks, ("none",))):
            self.check_same(missed(Run(self.STORE, deeds)), right)

    def test_turned_by_the_begin(self):
        ahead = (("write", 0, "10"), ("give", 1, "a"), ("give", 1, "b"), ("read", 0, None), ("ask", 0, "a"))
        for deeds, right in ((ahead + (("ask", 0, "b"), ("read", 1, None), ("ask", 1, "d")), ("turned", 0, 1)),
                             (ahead + (("read", 1, None), ("ask", 0, "b"), ("ask", 1, "d")), ("none",)),
                             (ahead + (("ask", 0, "b"), ("read", 1, None)), ("none",)),
                             (ahead + (("read", 0, None), ("ask", 0, "b"), ("ask", 1, "a"), ("ask", 1, "b")), ("none",))):
            self.check_same(turned(Run(self.STORE, deeds)), right)

    def test_a_read_that_has_heard_and_not_ended_does_not_turn(self):
        ahead = (("write", 0, "10"), ("give", 1, "a"), ("give", 1, "b"), ("read", 0, 1), ("ask", 0, "a"), ("ask", 0, "b"))
        behind = (("read", 1, None), ("ask", 1, "d"))
        self.check_same(turned(Run(self.STORE, ahead + behind)), ("none",))
        self.check_same(turned(Run(self.STORE, ahead + (("again", 0, "d"),) + behind)), ("none",))
        ahead = ahead[:3] + (("read", 0, 0),) + ahead[4:] + (("again", 0, "a"), ("again", 0, "b"))
        self.check_same(turned(Run(self.STORE, ahead + behind)), ("turned", 0, 1))

    def test_a_read_that_has_heard_and_not_ended_misses_and_is_turned(self):
        ahead = (("write", 0, "10"), ("give", 1, "a"), ("give", 1, "b"), ("read", 0, None), ("ask", 0, "a"), ("ask", 0, "b"))
        run = Run(self.STORE, ahead + (("read", 1, 0), ("ask", 1, "d")))
        self.check_same((missed(run), turned(run), run.reads[1][3]), (("missed", 1, 1), ("turned", 0, 1), None))

    def test_early_by_when_it_had_heard(self):
        ahead = (("write", 0, "10"), ("give", 1, "a"))
        reads = (("read", 0, 0), ("ask", 0, "a"), ("ask", 0, "b"))
        store = store_of(SHELF, (("a", "b", "c"),), (("a", "b"),))
        self.check_same(early(Run(store, ahead + (("give", 1, "b"),) + reads)), (0,))
        self.check_same(early(Run(store, ahead + (("give", 1, "b"), ("give", 1, "c")) + reads)), ())
        self.check_same(early(Run(store, ahead + (("give", 1, "b"),) + reads[:2] + (("give", 1, "c"),) + reads[2:])), ())
        # It has heard, and gives again: the write ends too late by that.
        self.check_same(early(Run(store, ahead + (("give", 1, "b"),) + reads + (("again", 0, "c"), ("give", 1, "c")))), (0,))
        self.check_same(early(Run(store, ahead + reads)), ())
        self.check_same(early(Run(store, ahead + (("give", 1, "b"),) + reads + (("read", 0, None), ("ask", 1, "b"),
                                                                                ("ask", 1, "a")))), (0, 1))


if __name__ == "__main__":
    unittest.main()
