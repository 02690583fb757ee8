"""Section 18: deeds and runs."""

import functools
import random
import unittest

from helper import Checks, alike, deep, junk, near
from lotkeepers.circles import Circle
from lotkeepers.errors import BadRun, NoKeeper, NoRead, NoStamp
from lotkeepers.runs import Run
from lotkeepers.shelves import Shelf
from lotkeepers.stores import store_of
from test_bringing import is_back
from test_shelves import NO_KEEPERS, SHELF, SHELVES
from test_sound import FEW, SMALL, drawn_stores
from test_stores import STORE

ASKED = store_of(SHELF, (("a", "b", "c"),), (("a", "b"), ("a", "b", "c"), ("b", "c")))
CROSSED = store_of(SHELF, (("a", "b"), ("c", "d"), ("d",)), (("a", "c"), ("b", "d"), ("b",)))
ALIKE = store_of(Shelf("parts x\nkeeper c x x\nkeeper a x\nkeeper b x"), (("c", "a"), ("b",)), (("a",), ("c", "b")))
FOUR = store_of(SHELVES[3], (("f", "e", "d", "c"), ("e", "c", "b", "a")), (("f", "e", "d", "b"), ("e", "d")))
STORES = [ASKED, CROSSED, ALIKE, FOUR, STORE, SMALL, FEW]
NO_NUMBERS = [-1, None, True, False, "0", "", (), (0,), [0], {}, ("a",), deep(30), 999999999, ASKED]
WORDS = ("write", "give", "read", "ask", "again")


def of_word(deeds, word):
    return [deed for deed in deeds if deed[0] == word]


def can_be_done(store, ahead, deed):
    """By the table, for any value."""
    if type(deed) is not tuple or len(deed) != 3 or type(deed[0]) is not str or type(deed[1]) is not int:
        return False
    word, number, last = deed
    writes, reads = of_word(ahead, "write"), of_word(ahead, "read")
    if word == "write":
        fine = type(last) is str and len(last) == len(store.shelf.parts) and set(last) <= {"0", "1"}
        return fine and len(writes) < 6 and number in range(len(store.writes))
    if word == "read":
        fine = last is None or type(last) is int and last in range(len(store.writes))
        return fine and len(reads) < 6 and number in range(len(store.asks))
    if word == "give":
        return number in range(1, len(writes) + 1) and last in store.writes[writes[number - 1][1]] and deed not in ahead
    if word not in ("ask", "again") or number not in range(len(reads)):
        return False
    asked = store.asks[reads[number][1]]
    if word == "ask":
        return last in asked and deed not in ahead
    back = reads[number][2]
    heard = all(("ask", number, keeper) in ahead for keeper in asked)
    return back is not None and heard and last in store.writes[back] and deed not in ahead


def first_wrong(store, deeds):
    """The number by which deeds are refused, None if they are a run."""
    if type(deeds) is not tuple or len(deeds) > 40:
        return 0
    for number, deed in enumerate(deeds):
        if not can_be_done(store, deeds[:number], deed):
            return number + 1
    return None


@functools.lru_cache(None)
def back(text, lot):
    return is_back(Shelf(text), lot)


@functools.lru_cache(None)
def held_by(text, asks, deeds, keeper):
    """The stamps whose pieces a keeper has behind these deeds: asks are the reading lots."""
    stamps = {0}
    for number, deed in enumerate(deeds):
        if deed[0] == "give" and deed[2] == keeper:
            stamps.add(deed[1])
        if deed[0] == "again" and deed[2] == keeper:
            stamps.add(brought_by(text, asks, deeds[:number], deed[1]))
    return stamps


def tellers(text, asks, deeds, read, stamp):
    """Who told this read of this stamp."""
    return [deed[2] for number, deed in enumerate(deeds) if deed[:2] == ("ask", read)
            and stamp in held_by(text, asks, deeds[:number], deed[2])]


@functools.lru_cache(None)
def brought_by(text, asks, deeds, read):
    """What a read brings, None if it has not heard."""
    lot = asks[of_word(deeds, "read")[read][1]]
    if not all(("ask", read, keeper) in deeds for keeper in lot):
        return None
    stamps = range(1, len(of_word(deeds, "write")) + 1)
    return max([0] + [stamp for stamp in stamps if back(text, tuple(tellers(text, asks, deeds, read, stamp)))])


def spans(store, deeds):
    """Begin and end of each write, then of each read."""
    writes, reads = [], []
    for number, deed in enumerate(deeds):
        if deed[0] == "write":
            stamp = len(writes) + 1
            lot = store.writes[deed[1]]
            places = [deeds.index(("give", stamp, keeper)) for keeper in lot if ("give", stamp, keeper) in deeds]
            writes.append((deed[1], deed[2], number, max(places) if len(places) == len(lot) else None))
        if deed[0] == "read":
            wanted = [("ask", len(reads), keeper) for keeper in store.asks[deed[1]]]
            if deed[2] is not None:
                wanted += [("again", len(reads), keeper) for keeper in store.writes[deed[2]]]
            places = [deeds.index(other) for other in wanted if other in deeds]
            reads.append((deed[1], deed[2], number, max(places) if len(places) == len(wanted) else None))
    return tuple(writes), tuple(reads)


def all_deeds(store):
    """Deeds of all kinds, those among them that can be done at some time."""
    numbers = range(-1, 9)
    names = store.shelf.circle.names
    records = ["1" * len(store.shelf.parts), "0" * len(store.shelf.parts)]
    for number in numbers:
        yield from [("write", number, record) for record in records]
        yield from [("read", number, last) for last in (None,) + tuple(numbers)]
        yield from [(word, number, name) for word in ("give", "ask", "again") for name in names]


def drawn_deed(draw, store, ahead):
    """Any deed, perhaps one that cannot be done; begins of writes and reads more seldom than others."""
    word = draw.choices(WORDS, (1, 4, 1, 4, 4))[0]
    if word == "write":
        return word, draw.randrange(len(store.writes)), "".join(draw.choice("01") for _ in store.shelf.parts)
    if word == "read":
        return word, draw.randrange(len(store.asks)), draw.choice((None, None) + tuple(range(len(store.writes))))
    many = max(1, len(of_word(ahead, "write" if word == "give" else "read")))
    return word, draw.randrange(many) + (word == "give"), draw.choice(store.shelf.circle.names)


def drawn_deeds(draw, store, many):
    """Deeds each of which can be done: so many, or as many as come up."""
    deeds = ()
    for _ in range(12 * many):
        deed = drawn_deed(draw, store, deeds)
        if len(deeds) < many and can_be_done(store, deeds, deed):
            deeds += (deed,)
    return deeds


@functools.lru_cache(None)
def drawn_runs(many, seed=18):
    """Pairs of a store and deeds, drawn alike at each run."""
    draw = random.Random(seed)
    stores = STORES * 3 + list(drawn_stores(60))
    some = [draw.choice(stores) for _ in range(many)]
    return tuple((store, drawn_deeds(draw, store, draw.choice((5, 12, 20, 30, 40)))) for store in some)


class TestRun(Checks, unittest.TestCase):
    def check_run(self, store, deeds):
        run = Run(store=store, deeds=deeds)
        text, asks = store.shelf.text, store.asks
        writes, reads = spans(store, deeds)
        self.check_same((run.writes, run.reads), (writes, reads))
        self.assertIs(run.store, store)
        self.check_same(run.deeds, deeds)
        for stamp in range(len(writes) + 1):
            self.check_same(run.record(stamp=stamp), writes[stamp - 1][1] if stamp else "0" * len(store.shelf.parts))
        for keeper in store.shelf.circle.names:
            self.check_same(run.has(keeper=keeper), tuple(sorted(held_by(text, asks, deeds, keeper))))
        for read in range(len(reads)):
            self.check_same(run.brought(read=read), brought_by(text, asks, deeds, read))
            for stamp in range(len(writes) + 1):
                lot = tellers(text, asks, deeds, read, stamp)
                self.check_same(run.told(read=read, stamp=stamp),
                                tuple(name for name in store.shelf.circle.names if name in lot))
        return run

    def test_drawn_runs(self):
        ended = [0, 0, 0, 0]
        for store, deeds in drawn_runs(300):
            run = self.check_run(store, deeds)
            ended[0] += any(row[3] is not None for row in run.writes)
            ended[1] += any(row[3] is not None and row[1] is None for row in run.reads)
            ended[2] += any(row[3] is not None and row[1] is not None and run.brought(read) > 0 for read,
                            row in enumerate(run.reads))
            ended[3] += any(row[3] is not None and row[1] is not None and run.brought(read) == 0 for read,
                            row in enumerate(run.reads))
        self.assertGreater(min(ended), 20, ended)

    def test_no_deeds(self):
        for store in STORES:
            run = self.check_run(store, ())
            self.check_same((run.writes, run.reads, run.deeds), ((), (), ()))
            self.check_same(run.has(store.shelf.circle.names[0]), (0,))

    def test_each_deed_behind_each_run(self):
        """Whatever cannot be done is refused by its number, whatever can be done is taken."""
        taken = {word: 0 for word in WORDS}
        refused = {word: 0 for word in WORDS}
        for store, deeds in drawn_runs(45, 19):
            if len(deeds) == 40:
                deeds = deeds[:39]
            for deed in all_deeds(store):
                if can_be_done(store, deeds, deed):
                    taken[deed[0]] += 1
                    self.check_same(Run(store, deeds + (deed,)).deeds, deeds + (deed,))
                else:
                    refused[deed[0]] += 1
                    self.check_raises(BadRun, len(deeds) + 1, Run, store, deeds + (deed,))
        self.assertGreater(min(taken.values()), 20, taken)
        self.assertGreater(min(refused.values()), 20, refused)

    def test_near_deeds(self):
        for store, deeds in drawn_runs(14, 20):
            for value in near(deeds[:20]):
                wrong = first_wrong(store, value)
                if wrong is None:
                    self.check_same(Run(store, value).deeds, value)
                else:
                    self.check_raises(BadRun, wrong, Run, store, value)

    def test_no_deeds_at_all(self):
        for value in junk() + [list(), [("write", 0, "10")], ASKED, "write", {0: ("write", 0, "10")}]:
            wrong = first_wrong(ASKED, value)
            if wrong is not None:
                self.check_raises(BadRun, wrong, Run, ASKED, value)
                self.check_raises(BadRun, wrong, Run, store=ASKED, deeds=value)
        for value in junk():
            self.check_raises(BadRun, 1, Run, ASKED, (value,))
            self.check_raises(BadRun, 2, Run, ASKED, (("write", 0, "11"), value, None))


class TestEachDeed(Checks, unittest.TestCase):
    """Each condition of the table by itself."""

    def check_ends(self, store, ahead, right, wrong):
        for deed in right:
            self.check_same(Run(store, ahead + (deed,)).deeds, ahead + (deed,))
        for deed in wrong:
            self.check_raises(BadRun, len(ahead) + 1, Run, store, ahead + (deed,))
            self.check_raises(BadRun, len(ahead) + 1, Run, store, ahead + (deed, "no deed"))

    def test_writes(self):
        self.check_ends(CROSSED, (), [("write", 0, "00"), ("write", 2, "11"), ("write", 1, "01")],
                        [("write", 3, "00"), ("write", -1, "00"), ("write", True, "00"), ("write", False, "00"),
                         ("write", "0", "00"),
                         ("write", None, "00"), ("write", 0, "0"), ("write", 0, "000"), ("write", 0, "02"), ("write", 0, 0),
                         ("write", 0, None),
                         ("write", 0, ("0", "0")), ("write", 0), ("write", 0, "00", 0), ["write", 0, "00"], ("Write", 0, "00"),
                         ("write",), (),
                         ("write", [0], "00"), (["write"], 0, "00"), ("write", 0, ["0", "0"])])

    def test_gives(self):
        ahead = (("write", 0, "10"), ("write", 1, "01"), ("give", 1, "a"))
        self.check_ends(CROSSED, ahead, [("give", 1, "b"), ("give", 2, "c"), ("give", 2, "d")],
                        [("give", 1, "a"), ("give", 1, "c"), ("give", 2, "a"), ("give", 0, "a"), ("give", 3, "a"),
                         ("give", -1, "d"), ("give", True, "b"),
                         ("give", "1", "b"), ("give", 1, "z"), ("give", 1, None), ("give", 1, ("b",)), ("give", 1, ["b"]),
                         ("give", 1), ("give", 1, "b", 1)])
        self.check_ends(CROSSED, (), [], [("give", 1, "a"), ("give", 0, "a")])

    def test_reads(self):
        self.check_ends(CROSSED, (), [("read", 0, None), ("read", 2, None), ("read", 1, 0), ("read", 1, 2)],
                        [("read", 3, None), ("read", -1, None), ("read", True, None), ("read", False, None),
                         ("read", None, None), ("read", 0, 3),
                         ("read", 0, -1), ("read", 0, True), ("read", 0, False), ("read", 0, "0"), ("read", 0, ()), ("read", 0),
                         ("read", 0, None, None),
                         ("read", "0", None), ("read", (0,), None)])

    def test_asks(self):
        ahead = (("read", 0, None), ("read", 1, 0), ("ask", 0, "a"))
        self.check_ends(CROSSED, ahead, [("ask", 0, "c"), ("ask", 1, "b"), ("ask", 1, "d")],
                        [("ask", 0, "a"), ("ask", 0, "b"), ("ask", 1, "c"), ("ask", 2, "a"), ("ask", -1, "b"),
                         ("ask", True, "b"), ("ask", False, "c"),
                         ("ask", "1", "b"), ("ask", 0, "z"), ("ask", 0, None), ("ask", 0, ["c"]), ("ask", 0, ("c",)),
                         ("ask", 0), ("ask", 0, "c", 0)])
        self.check_ends(CROSSED, (), [], [("ask", 0, "a")])

    def test_agains(self):
        ahead = (("read", 0, None), ("read", 1, 0), ("ask", 0, "a"), ("ask", 0, "c"), ("ask", 1, "d"))
        # The first read has heard, but is asked once; the second one has not heard.
        self.check_ends(CROSSED, ahead, [], [("again", read, keeper) for read in (0, 1, 2, -1) for keeper in "abcd"])
        ahead += (("ask", 1, "b"),)
        self.check_ends(CROSSED, ahead, [("again", 1, "a"), ("again", 1, "b")],
                        [("again", 0, "a"), ("again", 1, "c"), ("again", 1, "d"), ("again", 2, "a"), ("again", -1, "a"),
                         ("again", True, "a"),
                         ("again", "1", "a"), ("again", 1, "z"), ("again", 1, None), ("again", 1, ["a"]), ("again", 1),
                         ("again", 1, "a", 1)])
        ahead += (("again", 1, "b"),)
        self.check_ends(CROSSED, ahead, [("again", 1, "a")], [("again", 1, "b")])

    def test_keepers_that_got_it_otherwise_can_get_it_by_the_write(self):
        ahead = (("write", 2, "11"), ("give", 1, "d"), ("write", 1, "01"), ("read", 1, 2), ("ask", 0, "b"), ("ask", 0, "d"),
                 ("again", 0, "d"))
        run = Run(CROSSED, ahead)
        self.check_same((run.brought(0), run.has("d")), (1, (0, 1)))
        ahead = (("write", 1, "11"), ("give", 1, "d"), ("read", 1, 1), ("ask", 0, "b"), ("ask", 0, "d"), ("again", 0, "c"),
                 ("again", 0, "d"))
        run = Run(CROSSED, ahead + (("give", 1, "c"),))
        self.check_same((run.has("c"), run.writes[0][3], run.reads[0][3]), ((0, 1), 7, 6))
        self.check_same(Run(CROSSED, ahead).writes[0][3], None)

    def test_six_writes_and_seven(self):
        six = tuple(("write", number % 3, "11") for number in range(6))
        self.check_same(len(Run(CROSSED, six).writes), 6)
        self.check_raises(BadRun, 7, Run, CROSSED, six + (("write", 0, "00"),))
        self.check_same(Run(CROSSED, six + (("give", 6, "d"), ("read", 2, None), ("ask", 0, "b"))).writes[5], (2, "11", 5, 6))

    def test_six_reads_and_seven(self):
        six = tuple(("read", number % 3, None if number % 2 else 1) for number in range(6))
        self.check_same(len(Run(CROSSED, six).reads), 6)
        self.check_raises(BadRun, 7, Run, CROSSED, six + (("read", 0, None),))
        self.check_same(Run(CROSSED, six + (("ask", 5, "b"), ("write", 2, "10"))).reads[5], (2, None, 5, 6))

    def test_forty_deeds_and_forty_one(self):
        deeds = ()
        for number in range(6):
            deeds += (("write", 0, "10"),) + tuple(("give", number + 1, keeper) for keeper in "abc")
        for number in range(4):
            deeds += (("read", 1, None),) + tuple(("ask", number, keeper) for keeper in "abc")
        self.assertEqual(len(deeds), 40)
        self.check_same(Run(ASKED, deeds).brought(3), 6)
        self.check_same(Run(ASKED, deeds).reads[3], (1, None, 36, 39))
        self.check_raises(BadRun, 0, Run, ASKED, deeds + (("read", 1, None),))
        self.check_raises(BadRun, 0, Run, ASKED, (None,) * 41)
        self.check_raises(BadRun, 1, Run, ASKED, (None,) * 40)
        self.check_raises(BadRun, 40, Run, ASKED, deeds[:39] + (None,))


class TestBrought(Checks, unittest.TestCase):
    def test_greater_stamps_that_cannot_be_brought_back(self):
        deeds = (("write", 0, "10"), ("give", 1, "a"), ("give", 1, "b"), ("write", 0, "01"), ("write", 0, "11"),
                 ("give", 3, "b"), ("give", 2, "a"))
        asks = (("read", 0, None), ("ask", 0, "b"), ("ask", 0, "a"))
        run = Run(ASKED, deeds + asks)
        self.check_same((run.brought(0), run.told(0, 3), run.told(0, 2), run.told(0, 1)), (1, ("b",), ("a",), ("a", "b")))
        # Pieces of unlike stamps are not put together.
        self.check_same(Run(ASKED, deeds[3:5] + (("give", 1, "a"), ("give", 2, "b")) + asks).brought(0), 0)
        self.check_same(Run(ASKED, deeds + (("give", 2, "b"),) + asks).brought(0), 2)
        self.check_same(Run(ASKED, deeds + (("give", 3, "a"),) + asks).brought(0), 3)

    def test_what_comes_behind_the_asking_is_not_told(self):
        deeds = (("write", 0, "10"), ("give", 1, "a"), ("read", 0, None), ("ask", 0, "b"), ("give", 1, "b"), ("ask", 0, "a"))
        run = Run(ASKED, deeds)
        self.check_same((run.brought(0), run.told(0, 1), run.told(0, 0), run.has("b")), (0, ("a",), ("a", "b"), (0, 1)))
        self.check_same(Run(ASKED, deeds[:5]).brought(0), None)
        self.check_same(Run(ASKED, deeds[:5]).told(0, 0), ("b",))

    def test_gives_again(self):
        store = ASKED.with_write(("d",)).with_ask(("d",))
        deeds = (("write", 0, "10"), ("give", 1, "a"), ("give", 1, "b"), ("read", 0, 1), ("ask", 0, "a"), ("ask", 0, "b"))
        run = Run(store, deeds)
        self.check_same((run.reads, run.has("d"), run.brought(0)), (((0, 1, 3, None),), (0,), 1))
        run = Run(store, deeds + (("again", 0, "d"), ("read", 3, 0), ("ask", 1, "d")))
        self.check_same((run.reads[0], run.has("d"), run.brought(1), run.writes[0][3]), ((0, 1, 3, 6), (0, 1), 1, None))
        run = Run(store, run.deeds + tuple(("again", 1, keeper) for keeper in "cba"))
        self.check_same((run.reads[1], run.has("c"), run.writes[0][3]), ((3, 0, 7, 11), (0, 1), None))

    def test_gives_again_of_stamp_nought(self):
        deeds = (("write", 0, "10"), ("give", 1, "a"), ("read", 0, 0), ("ask", 0, "a"), ("ask", 0, "b"), ("again", 0, "c"),
                 ("again", 0, "b"), ("again", 0, "a"))
        run = Run(ASKED, deeds)
        self.check_same((run.brought(0), run.reads[0], run.has("a"), run.has("c")), (0, (0, 0, 2, 7), (0, 1), (0,)))

    def test_stamp_nought_is_told_by_all_who_were_asked(self):
        run = Run(ASKED, (("read", 1, None), ("ask", 0, "c"), ("ask", 0, "a")))
        self.check_same((run.told(0, 0), run.brought(0)), (("a", "c"), None))


class TestWrongArguments(Checks, unittest.TestCase):
    RUN = Run(ASKED, (("write", 0, "10"), ("give", 1, "a"), ("read", 0, None), ("ask", 0, "a"), ("read", 1, 0),
                      ("write", 0, "11")))

    def test_reads(self):
        self.check_refuses(NoRead, NO_NUMBERS + [2, 5], self.RUN.brought)
        self.check_refuses(NoRead, NO_NUMBERS + [2, 5], lambda value: self.RUN.brought(read=value))
        for stamp in (0, 1, 3, None, True):
            self.check_refuses(NoRead, NO_NUMBERS + [2, 5], lambda value: self.RUN.told(value, stamp))
            self.check_refuses(NoRead, NO_NUMBERS + [2, 5], lambda value: self.RUN.told(stamp=stamp, read=value))
        self.check_refuses(NoRead, NO_NUMBERS + [0], Run(ASKED, ()).brought)

    def test_stamps(self):
        self.check_refuses(NoStamp, NO_NUMBERS + [3, 6], self.RUN.record)
        self.check_refuses(NoStamp, NO_NUMBERS + [3, 6], lambda value: self.RUN.record(stamp=value))
        self.check_refuses(NoStamp, NO_NUMBERS + [3, 6], lambda value: self.RUN.told(0, value))
        self.check_refuses(NoStamp, NO_NUMBERS + [3, 6], lambda value: self.RUN.told(stamp=value, read=1))
        self.check_refuses(NoStamp, NO_NUMBERS + [1], Run(ASKED, ()).record)

    def test_keepers(self):
        self.check_refuses(NoKeeper, NO_KEEPERS, self.RUN.has)
        self.check_refuses(NoKeeper, NO_KEEPERS, lambda value: self.RUN.has(keeper=value))


class TestEqual(Checks, unittest.TestCase):
    def test_by_stores_and_deeds_alone(self):
        deeds = (("write", 0, "10"), ("give", 1, "a"))
        run = Run(ASKED, deeds)
        same = Run(store_of(Shelf(SHELF.text), ASKED.writes, ASKED.asks), tuple([tuple(list(deed)) for deed in deeds]))
        self.assertIs(run == same, True)
        self.assertIs(run != same, False)
        others = [Run(ASKED, deeds[:1]), Run(ASKED, ()), Run(ASKED, deeds[:1] + (("give", 1, "b"),)),
                  Run(ASKED.without_ask(0), deeds),
                  Run(ASKED.with_ask(("d",)), deeds), deeds, ASKED, (ASKED, deeds), None, True, 0, "", [run], {},
                  Circle(("a", "b")), run.writes]
        for other in others:
            self.assertIs(run == other, False)
            self.assertIs(other == run, False)
            self.assertIs(run != other, True)

    def test_attributes_are_set_at_once(self):
        run = Run(ASKED, ())
        self.assertLessEqual({"store", "deeds", "writes", "reads"}, set(vars(run)))

    def test_equal_calls(self):
        for store, deeds in drawn_runs(20, 21):
            one, other = Run(store, deeds), Run(store, deeds)
            self.assertTrue(one == other)
            self.assertTrue(alike((one.writes, one.reads), (other.writes, other.reads)))


if __name__ == "__main__":
    unittest.main()
