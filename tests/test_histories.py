"""Section 20: histories."""

import itertools
import random
import unittest

from helper import Checks, deep, junk, near, one_of
from lotkeepers.errors import BadHistory
from lotkeepers.histories import regular, seen, shows_regular
from lotkeepers.orders import one_at_a_time, shows_one_at_a_time, zone
from lotkeepers.runs import Run
from test_judging import Told
from test_runs import ASKED, drawn_runs

PAST = (("write", 1, 0, 3), ("write", 2, 4, 9), ("read", 1, 5, 6), ("read", 2, 7, 8), ("read", 1, 10, 11))
TWELVE = tuple(("write", 99 - number, 2 * number, 2 * number + 1) for number in range(6)) \
    + tuple(("read", 99 - number, 12 + 2 * number, 99 if number == 5 else 13 + 2 * number) for number in range(6))

NO_HISTORIES = [
    [], None, True, 0, "", "write", {}, list(PAST), PAST[0], (list(PAST[0]),), (PAST,), TWELVE + (("read", 0, 50, 51),),
    (None,) * 12, ((),),
    (("give", 1, 0, 1),), (("Write", 1, 0, 1),), (("write", 1, 0),), (("write", 1, 0, 1, 2),), (("write", 0, 0, 1),),
    (("write", 100, 0, 1),),
    (("write", -1, 0, 1),), (("write", True, 0, 1),), (("write", "1", 0, 1),), (("write", None, 0, 1),), (("write", 1, -1, 1),),
    (("write", 1, 100, None),), (("write", 1, 99, 100),), (("write", 1, 98, 100),), (("write", 1, 1, 1),),
    (("write", 1, 2, 1),), (("write", 1, True, 2),),
    (("write", 1, False, 2),), (("write", 1, 0, True),), (("write", 1, 0, False),), (("write", 1, "0", 1),),
    (("write", 1, 0, "1"),), (("write", 1, None, 1),),
    (("write", 1, None, None),), (("read", 0, 0, None),), (("read", -1, 0, 1),), (("read", 100, 0, 1),),
    (("read", False, 0, 1),), (("read", None, 0, 1),),
    (("read", 0, 0, 0),), (("read", 0, 1, 0),), (("read", 0, 99, 100),), (("read", 0, False, 1),), (("read", 0, 0, True),),
    (("read", 0, 0, 1, 2),),
    (("read", 1, 0, 1),), (("write", 2, 2, 3), ("read", 1, 0, 1)), (("write", 1, 0, 1), ("write", 1, 2, 3)),
    (("write", 1, 0, None), ("write", 1, 2, None)),
    (("write", 1, 0, 1), ("write", 2, 1, 2)), (("write", 1, 0, 2), ("write", 2, 0, 3)),
    (("write", 1, 0, 3), ("write", 2, 2, 3)),
    (("write", 1, 0, None), ("write", 2, 0, None)), (("write", 1, 0, 5), ("read", 1, 2, 5)),
    (("write", 1, 0, 5), ("read", 1, 5, 6)),
    (("write", 1, 0, 1), None), (("write", 1, 0, 1), ["read", 1, 2, 3]), (("write", 1, 0, [1]),), (("write", (1,), 0, 1),),
    (([], 1, 0, 1),),
    ((("write",), 1, 0, 1),), deep(30), (deep(30),), (ASKED,), (("write", ASKED, 0, 1),), ("writ", "read"),
    (("write", 1, 0, 999999999),),
]


def is_call(value):
    if type(value) is not tuple or len(value) != 4 or type(value[0]) is not str or value[0] not in ("write", "read"):
        return False
    word, stamp, begin, end = value
    if type(stamp) is not int or type(begin) is not int or not (begin in range(100)
                                                                and stamp in range(1 if word == "write" else 0, 100)):
        return False
    return end is None and word == "write" or type(end) is int and begin < end <= 99


def is_history(value):
    """By the words of the section, for any value."""
    if type(value) is not tuple or len(value) > 12 or not all(is_call(call) for call in value):
        return False
    written = [call[1] for call in value if call[0] == "write"]
    times = [call[2] for call in value] + [call[3] for call in value if call[3] is not None]
    told = [call[1] for call in value if call[0] == "read" and call[1] != 0]
    return len(set(written)) == len(written) and len(set(times)) == len(times) and set(told) <= set(written)


def ahead_of(call, other):
    return call[3] is not None and call[3] < other[2]


def right_bars(history):
    """All right results, by the words of the section."""
    rights = []
    writes = [(number, call) for number, call in enumerate(history) if call[0] == "write"]
    for read, call in enumerate(history):
        if call[0] == "write":
            continue
        own = [row for row in writes if row[1][1] == call[1]]
        if own and own[0][1][2] > call[3]:
            rights.append(("irregular", read, own[0][0]))
            continue
        for number, other in writes:
            if ahead_of(other, call) and (call[1] == 0 or ahead_of(own[0][1], other)):
                rights.append(("irregular", read, number))
    return rights or [("regular",)]


def drawn_history(draw, many):
    """A history of so many calls: times are drawn, and who tells what."""
    times = sorted(draw.sample(range(100), 2 * many)) if draw.random() < 0.5 else list(range(2 * many))
    if draw.random() < 0.6:
        # Calls that last for a short while make histories that hold more often.
        places = list(range(2 * many))
        for _ in range(2 * many):
            place = draw.randrange(2 * many - 1) if many else 0
            if many:
                places[place], places[place + 1] = places[place + 1], places[place]
    else:
        places = draw.sample(range(2 * many), 2 * many)
    spans = [sorted((times[places[2 * number]], times[places[2 * number + 1]])) for number in range(many)]
    writes = draw.randint(0, many)
    stamps = draw.sample(range(1, 100), writes)
    calls = []
    for number, (begin, end) in enumerate(spans):
        if number < writes:
            calls.append(("write", stamps[number], begin, None if draw.random() < 0.2 else end))
        else:
            calls.append(("read", draw.choice(stamps + [0]), begin, end))
    draw.shuffle(calls)
    return tuple(calls)


def drawn_histories(many, most=12, seed=20):
    draw = random.Random(seed)
    for _ in range(many):
        yield drawn_history(draw, draw.randint(0, most))


def good_histories(many, most, seed):
    """Histories in which each read tells what stands at some time between its begin and its end."""
    draw = random.Random(seed)
    for _ in range(many):
        history = drawn_history(draw, draw.randint(1, most))
        points = {}
        for number, call in enumerate(history):
            low, high = call[2], 100 if call[3] is None else call[3]
            points[number] = low + draw.random() * (high - low)
        last, calls = 0, {}
        for number in sorted(points, key=points.get):
            call = history[number]
            if call[0] == "write" and (call[3] is not None or draw.random() < 0.5):
                last = call[1]
            calls[number] = call if call[0] == "write" else ("read", last) + call[2:]
        yield tuple(calls[number] for number in range(len(history)))


class TestSeen(Checks, unittest.TestCase):
    def test_drawn_runs(self):
        held = [0, 0, 0, 0]
        for store, deeds in drawn_runs(200, 23):
            told = Told(store, deeds)
            right = tuple(("write", stamp) + row[2:] for stamp, row in enumerate(told.writes, start=1))
            right += tuple(("read", stamp) + row[2:] for stamp, row in zip(told.brought, told.reads) if row[3] is not None)
            self.check_same(seen(run=Run(store, deeds)), right)
            self.assertTrue(is_history(right), right)
            held[0] += any(row[3] is None for row in told.writes)
            held[1] += any(row[3] is not None for row in told.writes)
            held[2] += any(row[3] is None for row in told.reads)
            held[3] += any(row[3] is not None for row in told.reads)
        self.assertGreater(min(held), 20, held)

    def test_reads_that_did_not_end_are_not_seen(self):
        deeds = (("read", 0, 0), ("write", 0, "10"), ("read", 0, None), ("ask", 0, "a"), ("ask", 1, "b"), ("ask", 0, "b"),
                 ("ask", 1, "a"))
        self.check_same(seen(Run(ASKED, ())), ())
        self.check_same(seen(Run(ASKED, deeds[:6])), (("write", 1, 1, None),))
        self.check_same(seen(Run(ASKED, deeds)), (("write", 1, 1, None), ("read", 0, 2, 6)))
        # The first read ends behind the second one, and stands ahead of it.
        again = tuple(("again", 0, keeper) for keeper in "abc")
        self.check_same(seen(Run(ASKED, deeds + again)), (("write", 1, 1, None), ("read", 0, 0, 9), ("read", 0, 2, 6)))

    def test_a_run_in_which_no_read_misses_is_regular(self):
        kinds = []
        for store, deeds in drawn_runs(600, 24):
            kinds.append(regular(seen(Run(store, deeds)))[0])
            if Told(store, deeds).missed() == [("none",)]:
                self.assertEqual(kinds[-1], "regular")
        self.assertGreater(min(kinds.count("regular"), kinds.count("irregular")), 20)


class TestHistory(Checks, unittest.TestCase):
    CALLS = (regular, one_at_a_time, lambda history: shows_regular(history, ("regular",)),
             lambda history: shows_one_at_a_time(history, ("order", ())), lambda history: zone(history, 0),
             lambda history: zone(history, None))

    def test_no_histories(self):
        self.assertFalse([value for value in NO_HISTORIES if is_history(value)])
        for call in self.CALLS:
            self.check_refuses(BadHistory, NO_HISTORIES, call)
            self.check_refuses(BadHistory, NO_HISTORIES[::4], lambda value: call(history=value))

    def test_near_ones_and_others(self):
        for history in (PAST, TWELVE, (("write", 99, 0, None), ("read", 0, 98, 99)), ()):
            for value in near(history) + junk():
                for call in self.CALLS[:2]:
                    if is_history(value):
                        self.assertIn(call(value)[0], ("regular", "irregular", "order", "early", "zones"))
                    else:
                        self.check_keeps(BadHistory, value, call, value)

    def test_right_ones_at_the_edges(self):
        for history in ((), TWELVE, TWELVE[::-1], (("write", 1, 99, None),), (("write", 99, 98, 99),), (("read", 0, 0, 99),),
                        (("read", 99, 0, 1), ("write", 99, 2, None)),
                        (("write", 1, 0, None), ("write", 2, 1, None), ("read", 1, 2, 3), ("read", 1, 4, 5))):
            self.assertTrue(is_history(history))
            for call in self.CALLS[:2]:
                self.assertIsInstance(call(history), tuple)

    def test_the_history_comes_first(self):
        for value in NO_HISTORIES:
            self.check_keeps(BadHistory, value, shows_regular, value, None)
            self.check_keeps(BadHistory, value, zone, value, "no stamp")
            self.check_keeps(BadHistory, value, shows_one_at_a_time, value, None)


class TestRegular(Checks, unittest.TestCase):
    def check_history(self, history):
        rights = right_bars(history)
        self.assertTrue(one_of(rights)(regular(history=history)), history)
        for value in rights:
            self.assertIs(shows_regular(history=history, value=value), True)
        return rights

    def test_drawn_histories(self):
        kinds = []
        for history in itertools.chain(drawn_histories(600), drawn_histories(400, 4, 25), good_histories(400, 8, 26)):
            self.assertTrue(is_history(history), history)
            kinds.append(self.check_history(history)[0][0])
        self.assertGreater(kinds.count("regular"), 100)
        self.assertGreater(kinds.count("irregular"), 100)

    def test_all_numbers(self):
        for history in drawn_histories(120, 7, 27):
            rights = right_bars(history)
            for read in range(-2, 8):
                for write in range(-2, 8):
                    self.assertIs(shows_regular(history, ("irregular", read, write)), ("irregular", read, write) in rights)
            self.assertIs(shows_regular(history, ("regular",)), rights == [("regular",)])

    def test_near_right_values(self):
        for history in [PAST, PAST[:4], (), TWELVE] + list(drawn_histories(30, 6, 28)):
            rights = right_bars(history)
            self.check_shows(shows_regular, (history,), one_of(rights), rights[:6])

    def test_a_write_that_begins_too_late(self):
        late = (("read", 1, 0, 1), ("write", 1, 2, 3))
        self.check_same(regular(late), ("irregular", 0, 1))
        self.check_same(regular((("read", 1, 0, 3), ("write", 1, 2, 4))), ("regular",))
        self.check_same(regular((("read", 1, 0, 3), ("write", 1, 2, None))), ("regular",))
        # Another write that is ahead of the read does not bar it then: only its own one does.
        both = (("write", 2, 0, 1), ("read", 1, 2, 3), ("write", 1, 4, 5))
        self.check_same(regular(both), ("irregular", 1, 2))
        self.assertIs(shows_regular(both, ("irregular", 1, 0)), False)

    def test_writes_that_bar(self):
        history = (("write", 1, 0, 1), ("write", 2, 2, 3), ("write", 3, 4, 5), ("write", 4, 6, None), ("read", 1, 7, 8))
        self.assertEqual(right_bars(history), [("irregular", 4, 1), ("irregular", 4, 2)])
        for number in range(5):
            self.assertIs(shows_regular(history, ("irregular", 4, number)), number in (1, 2))
        # A write that is at the same time as the told one does not bar, neither does one that is not ahead of the read.
        self.check_same(regular((("write", 1, 0, 4), ("write", 2, 2, 3), ("read", 1, 7, 8))), ("regular",))
        self.check_same(regular((("write", 1, 0, 1), ("write", 2, 2, 7), ("read", 1, 6, 8))), ("regular",))
        # One that was left off is ahead of nothing.
        self.check_same(regular((("write", 1, 0, None), ("write", 2, 2, 3), ("read", 1, 7, 8))), ("regular",))

    def test_nought(self):
        self.check_same(regular((("read", 0, 7, 8), ("write", 5, 0, 1))), ("irregular", 0, 1))
        self.check_same(regular((("read", 0, 7, 8), ("write", 5, 0, None))), ("regular",))
        self.check_same(regular((("read", 0, 0, 8), ("write", 5, 1, 2))), ("regular",))
        self.check_same(regular((("read", 0, 0, 8),)), ("regular",))


if __name__ == "__main__":
    unittest.main()
