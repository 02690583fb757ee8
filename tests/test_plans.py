"""Section 32: several keepers that lost their pieces."""

import itertools
import random
import unittest

from helper import Checks, alike, all_lots, inside, junk, one_of
from lotkeepers.errors import BadLot, BadPrices, NoPlan
from lotkeepers.plans import cheapest_plan, plan, shows_cheapest_plan, shows_plan
from lotkeepers.shelves import Shelf
from test_bringing import NEVER, small_shelves, told_by
from test_costs import NO_PRICES
from test_families import NO_LOT
from test_fetching import PRICES, drawn_prices, price_of, right_ones, all_choices
from test_lies import FIVE, TWO_EACH
from test_mending import first_lost, pieces_of
from test_shelves import SHELF, SHELVES, all_records

SMALL_ONES = SHELVES[:3] + SHELVES[4:] + NEVER + [TWO_EACH] + list(small_shelves())[::3]


def outside(shelf, lot):
    return tuple(name for name in shelf.circle.names if name not in lot)


def mended_ones(shelf, lost):
    """All that can be mended, one after the other, by whoever has pieces then."""
    having, grown = set(outside(shelf, lost)), True
    while grown:
        helpers = tuple(name for name in shelf.circle.names if name in having)
        more = {name for name in lost if name not in having and first_lost(shelf, name, helpers) is None}
        grown = bool(more)
        having |= more
    return tuple(name for name in lost if name in having)


def is_plan(shelf, lost, value):
    """By the section's words, for any value."""
    if type(value) is not tuple or len(value) != len(lost):
        return False
    having = set(outside(shelf, lost))
    for row in value:
        if type(row) is not tuple or len(row) != 2 or type(row[0]) is not str or row[0] not in lost or row[0] in having:
            return False
        if type(row[1]) is not tuple or row[1] not in all_lots(shelf.circle.names) or not inside(row[1], having):
            return False
        if first_lost(shelf, row[0], row[1]) is not None:
            return False
        having.add(row[0])
    return True


def all_plans(shelf, lost):
    """All plans, in each sequence that can be."""
    for row in itertools.permutations(lost):
        ways = [()]
        for place, keeper in enumerate(row):
            having = outside(shelf, row[place:])
            lots = [lot for lot in all_lots(having) if first_lost(shelf, keeper, lot) is None]
            ways = [way + ((keeper, lot),) for way in ways for lot in lots]
        yield from ways


def gone_records(shelf, lost, mended):
    """All records of which nobody tells anything who has pieces, and some other keeper does."""
    others = tuple(name for name in lost if name not in mended)
    having = outside(shelf, others)
    return [record for record in all_records(shelf) if not any(told_by(shelf, having, record)) and any(told_by(shelf, others,
                                                                                                               record))]


class TestPlan(Checks, unittest.TestCase):
    def check_lost(self, shelf, lost, most, near_too=False):
        mended = mended_ones(shelf, lost)
        value = plan(shelf=shelf, lost=lost)
        if mended == lost:
            judge = lambda held: type(held) is tuple and len(held) == 2 and held[0] == "plan" and is_plan(shelf, lost, held[1])
            rights = [("plan", way) for way in itertools.islice(all_plans(shelf, lost), most)]
        else:
            rights = [("never", mended, record) for record in gone_records(shelf, lost, mended)]
            judge = one_of(rights)
            self.assertEqual(next(all_plans(shelf, lost), None), None)
        self.assertTrue(judge(value), (shelf.text, lost, value))
        for right in rights + [value]:
            self.assertIs(shows_plan(shelf=shelf, lost=lost, value=right), True, right)
        if near_too:
            self.check_shows(shows_plan, (shelf, lost), judge, [value] + rights[:3] + rights[-2:])
        return value[0]

    def test_all_lots_of_small_shelves(self):
        words = [self.check_lost(shelf, lost, 400) for shelf in SMALL_ONES for lost in all_lots(shelf.circle.names)]
        self.assertGreater(min(words.count("plan"), words.count("never")), 50)

    def test_near_right_values(self):
        for shelf in (SHELF, TWO_EACH, NEVER[2]):
            for lost in all_lots(shelf.circle.names):
                self.check_lost(shelf, lost, 200, True)

    def test_greater_shelves(self):
        for shelf in (SHELVES[3], FIVE):
            for lost in all_lots(shelf.circle.names):
                if len(lost) <= 3:
                    self.check_lost(shelf, lost, 30)

    def test_nobody_lost_anything(self):
        for shelf in SMALL_ONES:
            self.check_same(plan(shelf, ()), ("plan", ()))
            self.assertIs(shows_plan(shelf, (), ("plan", ())), True)
            for value in (("plan", []), ("plan",), ("never", (), "11"), ("plan", ((),)), ("plan", (("a", ("b",)),)),
                          ["plan", ()]):
                self.assertIs(shows_plan(shelf, (), value), False)

    def test_everybody_lost_everything(self):
        for shelf in SMALL_ONES:
            self.assertEqual(plan(shelf, shelf.circle.names)[:2], ("never", ()))
            for record in all_records(shelf):
                right = any(told_by(shelf, shelf.circle.names, record))
                self.assertIs(shows_plan(shelf, shelf.circle.names, ("never", (), record)), right)

    def test_mended_keepers_help(self):
        for value in ((("a", ("d",)), ("b", ("a", "c"))), (("b", ("a", "c")), ("a", ("d",))),
                      (("b", ("d",)), ("a", ("b", "c"))),
                      (("a", ("c", "d")), ("b", ("a", "c", "d"))), (("a", ("b", "c")), ("b", ("d",))),
                      (("a", ("d",)), ("b", ("b", "d"))),
                      (("a", ("d",)), ("a", ("d",))), (("a", ("d",)),), (("a", ("d",)), ("b", ("d",)), ("c", ("d",))),
                      (("a", ("d",)), ("c", ("d",))), (("a", ("a", "d")), ("b", ("d",))), (("a", ["d"]), ("b", ("d",))),
                      (("a", ("d",)), ("b", ("c", "a"))), (("a", ("d", "c")), ("b", ("d",))), (("a", ("z",)), ("b", ("d",)))):
            self.assertIs(shows_plan(SHELF, ("a", "b"), ("plan", value)), is_plan(SHELF, ("a", "b"), value), value)
        self.assertIs(shows_plan(SHELF, ("a", "b"), ("plan", (("a", ("d",)), ("b", ("a", "c"))))), True)
        self.assertIs(shows_plan(SHELF, ("a", "b"), ("plan", (("b", ("a", "c")), ("a", ("d",))))), False)

    def test_some_can_be_mended(self):
        shelf = Shelf("parts x y\nkeeper a x\nkeeper b x\nkeeper c y\nkeeper d x+y")
        self.check_same(plan(shelf, ("a", "c", "d")), ("never", ("a",), "01"))
        for value in (("never", (), "01"), ("never", ("a", "c"), "01"), ("never", ["a"], "01"), ("never", ("a",), "10"),
                      ("never", ("a",), "00"),
                      ("never", ("a",), "11"), ("never", ("a",), 1), ("never", ("a",)), ("plan", ()),
                      ("plan", (("a", ("b",)),)),
                      ("plan", (("a", ("b",)), ("c", ("a", "b")), ("d", ("a", "b"))))):
            self.assertIs(shows_plan(shelf, ("a", "c", "d"), value), False, value)

    def test_wrong_lots(self):
        for call in (plan, lambda shelf, lost: shows_plan(shelf, lost, ("plan", ()))):
            self.check_refuses(BadLot, NO_LOT, lambda value: call(SHELF, value))
            self.check_refuses(BadLot, NO_LOT, lambda value: call(lost=value, shelf=SHELF))


class TestCheapestPlan(Checks, unittest.TestCase):
    def check_prices(self, shelf, lost, prices, near_too=False):
        mended = mended_ones(shelf, lost)
        if mended != lost:
            wrong = tuple(name for name in lost if name not in mended)
            self.check_raises(NoPlan, wrong, cheapest_plan, shelf, lost, prices)
            self.check_raises(NoPlan, wrong, shows_cheapest_plan, shelf, lost, prices, (0, ()))
            return
        wanted = [piece for keeper in lost for piece in pieces_of(shelf, keeper)]
        rights = right_ones(shelf, wanted, outside(shelf, lost), prices)
        value = cheapest_plan(shelf=shelf, lost=lost, prices=prices)
        judge = one_of(rights)
        self.assertTrue(judge(value))
        for right in rights:
            self.assertIs(shows_cheapest_plan(shelf=shelf, lost=lost, prices=prices, value=right), True)
        for some in all_choices(shelf, shelf.circle.names)[:100]:
            for held in ((price_of(shelf, some, prices), some), (rights[0][0], some)):
                self.assertIs(shows_cheapest_plan(shelf, lost, prices, held), judge(held), held)
        if near_too:
            self.check_shows(shows_cheapest_plan, (shelf, lost, prices), judge, rights[:3])

    def test_all_lots_of_small_shelves(self):
        draw = random.Random(32)
        for shelf in SMALL_ONES:
            for lost in all_lots(shelf.circle.names):
                for prices in [(1,) * len(shelf.circle)] + [drawn_prices(draw, shelf) for _ in range(3)]:
                    self.check_prices(shelf, lost, prices)

    def test_near_right_values(self):
        for lost in all_lots("abcd"):
            for prices in (PRICES, (1, 1, 1, 1)):
                self.check_prices(SHELF, lost, prices, True)

    def test_greater_shelves(self):
        draw = random.Random(23)
        for shelf in (SHELVES[3], FIVE):
            for lost in all_lots(shelf.circle.names)[::5]:
                self.check_prices(shelf, lost, drawn_prices(draw, shelf))

    def test_each_is_fetched_once(self):
        shelf = Shelf("parts x y\nkeeper a x\nkeeper b x\nkeeper c x+y\nkeeper d x y\nkeeper e y")
        self.check_same(cheapest_plan(shelf, ("a", "b", "c"), (1, 1, 1, 3, 3)), (6, (("d", 0), ("d", 1))))
        self.check_same(cheapest_plan(shelf, ("a", "b"), (1, 1, 1, 3, 3)), (3, (("d", 0),)))
        self.check_same(cheapest_plan(shelf, ("a", "b"), (1, 1, 1, 9, 1)), (2, (("c", 0), ("e", 0))))
        self.check_same(cheapest_plan(shelf, (), (9, 9, 9, 9, 9)), (0, ()))
        for value in ((False, ()), (0, []), (0, (("a", 0),)), (0,), [0, ()], (1, (("a", 0),)), (0, None), (-0, (())), None, ()):
            right = alike(value, (0, ()))
            self.assertIs(shows_cheapest_plan(shelf, (), (9, 9, 9, 9, 9), value), right, value)

    def test_wrong_ones(self):
        for call in (cheapest_plan, lambda shelf, lost, prices: shows_cheapest_plan(shelf, lost, prices, (0, ()))):
            self.check_refuses(BadLot, NO_LOT, lambda value: call(SHELF, value, PRICES))
            self.check_refuses(BadLot, NO_LOT, lambda value: call(SHELF, value, value))
            self.check_refuses(BadPrices, NO_PRICES, lambda value: call(SHELF, ("a",), value))
            # Prices are asked for ahead of plans.
            self.check_refuses(BadPrices, NO_PRICES, lambda value: call(prices=value, shelf=SHELF, lost=("a", "b", "c", "d")))
            for value in junk():
                self.check_keeps(BadPrices, value, call, SHELF, (), value)

    def test_a_plan_exactly_if_all_can_be_made_at_once(self):
        for shelf in SMALL_ONES:
            for lost in all_lots(shelf.circle.names):
                rest = outside(shelf, lost)
                at_once = all(first_lost(shelf, keeper, rest) is None for keeper in lost)
                self.assertEqual(plan(shelf, lost)[0] == "plan", at_once)


if __name__ == "__main__":
    unittest.main()
