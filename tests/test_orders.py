"""Section 21: one at a time."""

import itertools
import random
import unittest

from helper import Checks, junk, near, one_of
from lotkeepers.errors import NoStamp
from lotkeepers.orders import one_at_a_time, shows_one_at_a_time, zone
from test_histories import PAST, TWELVE, ahead_of, drawn_histories, good_histories, is_history
from test_runs import NO_NUMBERS


def right_zone(history, stamp):
    """By the words of the section."""
    calls = [call for call in history if call[1] == stamp] + [("write", 0, -2, -1)] * (stamp == 0)
    ends = [call[3] for call in calls if call[3] is not None]
    left = min(ends) if ends else 100
    right = max(call[2] for call in calls)
    return ("forward", left, right) if left < right else ("backward", right, left)


def stamps_of(history):
    return [0] + [call[1] for call in history if call[0] == "write"]


def is_order(history, order):
    """By the words of the section, of what is a tuple of unlike numbers of calls."""
    if not {number for number, call in enumerate(history) if call[3] is not None} <= set(order):
        return False
    calls = [history[number] for number in order]
    for place, call in enumerate(calls):
        if any(ahead_of(call, other) for other in calls[:place]):
            return False
        if call[0] == "read":
            told = [other[1] for other in calls[:place] if other[0] == "write"]
            if (told[-1] if told else 0) != call[1]:
                return False
    return True


def all_orders(history):
    """All orders, by going through all rows of calls."""
    numbers = range(len(history))
    return [row for many in range(len(history) + 1) for row in itertools.permutations(numbers, many) if is_order(history, row)]


def right_bars(history):
    """All right results of a history without an order, by the words of the section."""
    writes = {call[1]: call for call in history if call[0] == "write"}
    early = [("early", number) for number, call in enumerate(history)
             if call[0] == "read" and call[1] in writes and call[3] < writes[call[1]][2]]
    if early:
        return early
    rights = []
    zones = {stamp: right_zone(history, stamp) for stamp in stamps_of(history)}
    for one, other in itertools.permutations(zones, 2):
        (kind, low, high), (other_kind, other_low, other_high) = zones[one], zones[other]
        if kind == other_kind == "forward" and low < other_high and other_low < high:
            rights.append(("zones", one, other))
        if (kind, other_kind) == ("forward", "backward") and other_low > low and other_high < high:
            rights.append(("zones", one, other))
    return rights


def small_histories():
    """Two writes and one read or two, in all ways in which they can stand to one another, thinned out."""
    for reads in (1, 2):
        rows = [row for row in itertools.permutations(range(2 * (2 + reads)))
                if all(row[k] < row[k + 1] for k in range(0, len(row), 2))]
        for place, row in enumerate(rows[::1 if reads == 1 else 17]):
            for told in itertools.product((0, 5, 3), repeat=reads):
                for left_off in ((), (0,), (1,)) if reads == 1 else ((), (place % 2,)):
                    calls = [("write", 5, row[0], None if 0 in left_off else row[1]),
                             ("write", 3, row[2], None if 1 in left_off else row[3])]
                    calls += [("read", stamp, row[4 + 2 * k], row[5 + 2 * k]) for k, stamp in enumerate(told)]
                    yield tuple(calls[::-1] if place % 3 else calls)


class TestZone(Checks, unittest.TestCase):
    def test_drawn_histories(self):
        kinds = []
        for history in itertools.chain(drawn_histories(400, 12, 30), good_histories(100, 12, 31)):
            for stamp in stamps_of(history):
                kinds.append(right_zone(history, stamp)[0])
                self.check_same(zone(history=history, stamp=stamp), right_zone(history, stamp))
        self.assertGreater(min(kinds.count("forward"), kinds.count("backward")), 100)

    def test_nought(self):
        self.check_same(zone((), 0), ("backward", -2, -1))
        self.check_same(zone(PAST, 0), ("backward", -2, -1))
        self.check_same(zone((("read", 0, 0, 7),), 0), ("forward", -1, 0))
        self.check_same(zone((("read", 0, 4, 7), ("read", 0, 5, 6), ("write", 1, 8, 9)), 0), ("forward", -1, 5))

    def test_left_off(self):
        self.check_same(zone((("write", 4, 99, None),), 4), ("backward", 99, 100))
        self.check_same(zone((("write", 4, 7, None),), 4), ("backward", 7, 100))
        self.check_same(zone((("write", 4, 7, None), ("read", 4, 8, 9)), 4), ("backward", 8, 9))
        self.check_same(zone((("write", 4, 7, None), ("read", 4, 8, 9), ("read", 4, 10, 11)), 4), ("forward", 9, 10))
        self.check_same(zone((("write", 4, 7, 20),), 4), ("backward", 7, 20))
        self.check_same(zone((("write", 4, 7, 20), ("read", 4, 8, 9)), 4), ("backward", 8, 9))
        self.check_same(zone((("write", 4, 7, 20), ("read", 4, 21, 22)), 4), ("forward", 20, 21))

    def test_wrong_stamps(self):
        self.check_refuses(NoStamp, NO_NUMBERS + [3, 99, "1", (1,)], lambda value: zone(PAST, value))
        self.check_refuses(NoStamp, NO_NUMBERS + [3, 99], lambda value: zone(stamp=value, history=PAST))
        self.check_refuses(NoStamp, NO_NUMBERS + [1, 93], lambda value: zone(TWELVE, value))
        self.check_refuses(NoStamp, NO_NUMBERS + [1], lambda value: zone((), value))
        self.check_refuses(NoStamp, NO_NUMBERS + [1], lambda value: zone((("read", 0, 1, 2),), value))
        for value in junk():
            if type(value) is not int or value not in (0, 1, 2):
                self.check_keeps(NoStamp, value, zone, PAST, value)


class TestOneAtATime(Checks, unittest.TestCase):
    def check_history(self, history):
        """Against all orders of all calls: there is one exactly if nothing bars."""
        orders = [("order", row) for row in all_orders(history)]
        bars = right_bars(history)
        self.assertEqual(bool(orders), not bars, history)
        made = one_at_a_time(history=history)
        self.assertTrue(one_of(orders + bars)(made), (history, made))
        for value in orders[:40] + bars:
            self.assertIs(shows_one_at_a_time(history=history, value=value), True, (history, value))
        return made[0]

    def test_small_histories(self):
        kinds = [self.check_history(history) for history in small_histories()]
        for kind in ("order", "early", "zones"):
            self.assertGreater(kinds.count(kind), 100)

    def test_drawn_histories(self):
        kinds = [self.check_history(history) for history in itertools.chain(drawn_histories(250, 5, 32),
                                                                            good_histories(120, 5, 33))]
        for kind in ("order", "zones"):
            self.assertGreater(kinds.count(kind), 20)

    def test_great_histories(self):
        kinds = []
        for history in itertools.chain(drawn_histories(300, 12, 34), good_histories(300, 12, 35), (TWELVE, PAST, ())):
            made = one_at_a_time(history)
            kinds.append(made[0])
            bars = right_bars(history)
            self.assertTrue(made in bars if bars else made[0] == "order" and is_order(history, made[1]), (history, made))
            self.assertEqual(len(set(made[1])) if made[0] == "order" else 0, len(made[1]) if made[0] == "order" else 0)
            self.assertIs(shows_one_at_a_time(history, made), True)
        self.assertGreater(min(kinds.count("order"), kinds.count("zones")), 50)

    def test_what_is_good_has_an_order(self):
        for history in good_histories(300, 12, 36):
            self.assertEqual(one_at_a_time(history)[0], "order", history)

    def test_each_row_of_numbers(self):
        """All rows of unlike numbers, also such as are no orders."""
        for history in itertools.chain([PAST[:4]], drawn_histories(40, 4, 37), good_histories(40, 4, 38)):
            for many in range(len(history) + 1):
                for row in itertools.permutations(range(len(history)), many):
                    self.assertIs(shows_one_at_a_time(history, ("order", row)), is_order(history, row), (history, row))

    def test_near_right_values(self):
        draw = random.Random(39)
        pool = list(drawn_histories(200, 4, 40)) + list(good_histories(60, 4, 41))
        for history in [PAST, PAST[:4], ()] + draw.sample(pool, 40):
            rights = [("order", row) for row in all_orders(history)] + right_bars(history)
            self.check_shows(shows_one_at_a_time, (history,), one_of(rights), rights[:3] + rights[-3:])

    def test_all_pairs_of_stamps_and_all_reads(self):
        for history in itertools.chain([PAST], drawn_histories(120, 8, 42)):
            rights = right_bars(history)
            for number in range(-1, 13):
                self.assertIs(shows_one_at_a_time(history, ("early", number)), ("early", number) in rights)
            for one in stamps_of(history) + [-1, 100]:
                for other in stamps_of(history) + [-1, 100]:
                    self.assertIs(shows_one_at_a_time(history, ("zones", one, other)), ("zones", one, other) in rights)

    def test_left_off_ones(self):
        history = (("write", 1, 0, None), ("read", 0, 1, 2))
        self.assertEqual(sorted(all_orders(history)), [(1,), (1, 0)])
        for row in ((1,), (1, 0)):
            self.assertIs(shows_one_at_a_time(history, ("order", row)), True)
        for row in ((0, 1), (0,), (), (1, 1), (1, 0, 0), (True,), (1, False), (1, 0, 2), (-1,), [1], ("1",)):
            self.assertIs(shows_one_at_a_time(history, ("order", row)), False, row)
        self.check_same(one_at_a_time((("write", 1, 0, None), ("read", 1, 1, 2))), ("order", (0, 1)))
        self.assertIn(one_at_a_time((("write", 1, 0, None),)), [("order", ()), ("order", (0,))])
        self.check_same(one_at_a_time(()), ("order", ()))

    def test_early_comes_ahead_of_zones(self):
        history = (("read", 1, 0, 1), ("write", 1, 2, 3), ("write", 2, 4, 5), ("write", 3, 6, 7), ("read", 2, 8, 9),
                   ("read", 3, 10, 11), ("read", 2, 12, 13))
        self.assertTrue(is_history(history))
        self.check_same(one_at_a_time(history), ("early", 0))
        self.assertIs(shows_one_at_a_time(history, ("zones", 2, 3)), False)
        later = history[1:]
        self.assertIs(shows_one_at_a_time(later, ("zones", 2, 3)), True)

    def test_edges_of_zones(self):
        # Two forward zones side by side, and two that have a little in common.
        apart = (("write", 1, 0, 1), ("read", 1, 2, 9), ("write", 2, 3, 4), ("read", 2, 5, 6))
        self.check_same((zone(apart, 1), zone(apart, 2)), (("forward", 1, 2), ("forward", 4, 5)))
        self.check_same(one_at_a_time(apart), ("order", (0, 1, 2, 3)))
        crossed = (("write", 1, 0, 1), ("read", 1, 5, 9), ("write", 2, 3, 4), ("read", 2, 6, 7))
        self.check_same((zone(crossed, 1), zone(crossed, 2)), (("forward", 1, 5), ("forward", 4, 6)))
        self.assertIn(one_at_a_time(crossed), [("zones", 1, 2), ("zones", 2, 1)])
        # A backward zone within a forward one, and one that reaches out of it.
        inner = (("write", 1, 0, 1), ("read", 1, 8, 9), ("write", 2, 3, 4))
        self.check_same(one_at_a_time(inner), ("zones", 1, 2))
        self.assertIs(shows_one_at_a_time(inner, ("zones", 2, 1)), False)
        outer = (("write", 1, 0, 1), ("read", 1, 8, 9), ("write", 2, 3, 10))
        self.check_same(one_at_a_time(outer)[0], "order")

    def test_near_histories(self):
        for value in near(PAST):
            if is_history(value):
                self.assertEqual(one_at_a_time(value)[0] == "order", not right_bars(value))


if __name__ == "__main__":
    unittest.main()
