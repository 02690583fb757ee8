"""Section 31: what has to be fetched."""

import itertools
import random
import unittest

from helper import Checks, alike, junk, near
from lotkeepers.errors import BadHelpers, BadPrices, NoHelp, NoKeeper
from lotkeepers.fetching import cheapest_fetched, fewest_fetched, shows_cheapest_fetched, shows_fewest_fetched
from lotkeepers.shelves import Shelf
from test_bringing import NEVER, small_shelves
from test_costs import NO_PRICES
from test_lies import FIVE, TWO_EACH
from test_mending import NO_HELPERS, all_helpers, first_lost, others_of, pieces_of
from test_shelves import NO_KEEPERS, SHELF, SHELVES, all_spots

SMALL_ONES = SHELVES[:3] + SHELVES[4:] + NEVER + [TWO_EACH] + list(small_shelves())[::4]
PRICES = (1, 5, 3, 9)


def sums_of_pieces(pieces):
    """All sets of parts that are sums of these pieces."""
    held = {frozenset()}
    for piece in pieces:
        held |= {row ^ frozenset(piece) for row in held}
    return held


def piece_of(shelf, spot):
    return pieces_of(shelf, spot[0])[spot[1]]


def can_make(shelf, spots, wanted):
    """Whether all these pieces are sums of those at the spots."""
    held = sums_of_pieces(piece_of(shelf, spot) for spot in spots)
    return all(frozenset(piece) in held for piece in wanted)


def all_choices(shelf, helpers):
    spots = [spot for spot in all_spots(shelf) if spot[0] in helpers]
    return [some for many in range(len(spots) + 1) for some in itertools.combinations(spots, many)]


def price_of(shelf, spots, prices):
    return sum(prices[shelf.circle.names.index(keeper)] for keeper, _ in spots)


def right_ones(shelf, wanted, helpers, prices):
    """All right results, by going through all sets of spots of helpers."""
    held = [(price_of(shelf, some, prices), some) for some in all_choices(shelf, helpers) if can_make(shelf, some, wanted)]
    least = min(price for price, _ in held)
    return [row for row in held if row[0] == least]


def drawn_prices(draw, shelf):
    return tuple(draw.randint(1, draw.choice((2, 3, 9))) for _ in shelf.circle.names)


class TestFewest(Checks, unittest.TestCase):
    def check_lots(self, shelf, keeper, helpers, near_too):
        number = first_lost(shelf, keeper, helpers)
        if number is not None:
            self.check_raises(NoHelp, number, fewest_fetched, shelf, keeper, helpers)
            self.check_raises(NoHelp, number, shows_fewest_fetched, shelf, keeper, helpers, (1, ()))
            return 0
        rights = right_ones(shelf, pieces_of(shelf, keeper), helpers, [1] * len(shelf.circle))
        self.assertTrue(any(alike(fewest_fetched(shelf=shelf, keeper=keeper, helpers=helpers), right) for right in rights))
        for value in rights:
            self.assertIs(shows_fewest_fetched(shelf=shelf, keeper=keeper, helpers=helpers, value=value), True)
        for some in all_choices(shelf, shelf.circle.names)[:300]:
            for value in ((len(some), some), (rights[0][0], some)):
                self.assertIs(shows_fewest_fetched(shelf, keeper, helpers, value), value in rights, value)
        if near_too:
            self.check_shows(shows_fewest_fetched, (shelf, keeper, helpers), lambda value: self.is_right(value, rights),
                             rights[:3])
        return len(rights) > 1

    def is_right(self, value, rights):
        return any(alike(value, right) for right in rights)

    def test_all_lots_of_small_shelves(self):
        several = 0
        for shelf in SMALL_ONES:
            for keeper in shelf.circle.names:
                for helpers in all_helpers(shelf, keeper):
                    several += self.check_lots(shelf, keeper, helpers, shelf in (SHELF, TWO_EACH))
        self.assertGreater(several, 10)

    def test_greater_shelves(self):
        for shelf in (SHELVES[3], FIVE):
            for keeper in shelf.circle.names:
                for helpers in all_helpers(shelf, keeper)[-7:]:
                    self.check_lots(shelf, keeper, helpers, False)

    def test_sums_may_use_a_spot_more_than_once(self):
        shelf = Shelf("parts x y\nkeeper a x x+y\nkeeper b x\nkeeper c y")
        self.check_same(fewest_fetched(shelf, "a", ("b", "c")), (2, (("b", 0), ("c", 0))))
        alike_ones = Shelf("parts x\nkeeper a x x\nkeeper b x x")
        self.assertEqual(fewest_fetched(alike_ones, "a", ("b",))[0], 1)
        for value in ((1, (("b", 0),)), (1, (("b", 1),))):
            self.assertIs(shows_fewest_fetched(alike_ones, "a", ("b",), value), True)
        for value in ((True, (("b", 0),)), (1, (("b", False),)), (1, (("b", True),)), (1, [("b", 0)]), [1, (("b", 0),)],
                      (1, (("a", 0),)), (2, (("b", 0), ("b", 1))), (1, ()), (0, ()), (1, (("b", 0),), ())):
            self.assertIs(shows_fewest_fetched(alike_ones, "a", ("b",), value), False, value)

    def test_the_first_piece(self):
        shelf = Shelf("parts x y z\nkeeper a x y+z\nkeeper b x z\nkeeper c z\nkeeper d y")
        self.check_raises(NoHelp, 1, fewest_fetched, shelf, "a", ("b", "c"))
        self.check_raises(NoHelp, 0, fewest_fetched, shelf, "a", ("c", "d"))
        self.check_raises(NoHelp, 0, fewest_fetched, shelf, "a", ())
        self.check_same(fewest_fetched(shelf, "a", ("b", "d"))[0], 3)

    def test_wrong_ones(self):
        for call in (fewest_fetched, lambda shelf, keeper, helpers: shows_fewest_fetched(shelf, keeper, helpers, (1, ()))):
            self.check_refuses(NoKeeper, NO_KEEPERS, lambda value: call(SHELF, value, ("a",)))
            self.check_refuses(NoKeeper, NO_KEEPERS, lambda value: call(SHELF, value, value))
            self.check_refuses(BadHelpers, NO_HELPERS, lambda value: call(SHELF, "c", value))
            self.check_refuses(BadHelpers, NO_HELPERS, lambda value: call(shelf=SHELF, helpers=value, keeper="c"))


class TestCheapest(Checks, unittest.TestCase):
    def check_prices(self, shelf, keeper, prices, near_too):
        others = others_of(shelf, keeper)
        number = first_lost(shelf, keeper, others)
        if number is not None:
            self.check_raises(NoHelp, number, cheapest_fetched, shelf, keeper, prices)
            self.check_raises(NoHelp, number, shows_cheapest_fetched, shelf, keeper, prices, (1, ()))
            return 0
        rights = right_ones(shelf, pieces_of(shelf, keeper), others, prices)
        self.assertTrue(any(alike(cheapest_fetched(shelf=shelf, keeper=keeper, prices=prices), right) for right in rights))
        for value in rights:
            self.assertIs(shows_cheapest_fetched(shelf=shelf, keeper=keeper, prices=prices, value=value), True)
        for some in all_choices(shelf, shelf.circle.names)[:150]:
            for value in ((price_of(shelf, some, prices), some), (rights[0][0], some)):
                self.assertIs(shows_cheapest_fetched(shelf, keeper, prices, value), value in rights, value)
        if near_too:
            judge = lambda value: any(alike(value, right) for right in rights)
            self.check_shows(shows_cheapest_fetched, (shelf, keeper, prices), judge, rights[:3])
        return len(rights) > 1

    def test_small_shelves(self):
        draw = random.Random(31)
        several = 0
        for shelf in SMALL_ONES:
            for keeper in shelf.circle.names:
                for prices in [(1,) * len(shelf.circle), (9,) * len(shelf.circle)] + [drawn_prices(draw,
                                                                                                   shelf) for _ in range(4)]:
                    several += self.check_prices(shelf, keeper, prices, False)
        self.assertGreater(several, 20)

    def test_near_right_values(self):
        for keeper in SHELF.circle.names:
            for prices in (PRICES, (1, 1, 1, 1), (9, 1, 1, 2)):
                self.check_prices(SHELF, keeper, prices, True)

    def test_greater_shelves(self):
        draw = random.Random(3)
        for shelf in (SHELVES[3], FIVE):
            for keeper in shelf.circle.names:
                self.check_prices(shelf, keeper, drawn_prices(draw, shelf), False)

    def test_more_pieces_may_be_cheaper(self):
        shelf = Shelf("parts x y z\nkeeper a x+y+z\nkeeper b x+y+z\nkeeper c x+y z\nkeeper d x y")
        self.check_same(cheapest_fetched(shelf, "a", (1, 9, 4, 9)), (8, (("c", 0), ("c", 1))))
        self.check_same(cheapest_fetched(shelf, "a", (1, 8, 5, 9)), (8, (("b", 0),)))
        self.check_same(cheapest_fetched(shelf, "a", (1, 9, 9, 1)), (9, (("b", 0),)))
        # What the keeper itself costs has no say.
        for price in range(1, 10):
            self.check_same(cheapest_fetched(shelf, "a", (price, 9, 4, 9)), (8, (("c", 0), ("c", 1))))

    def test_wrong_ones(self):
        for call in (cheapest_fetched, lambda shelf, keeper, prices: shows_cheapest_fetched(shelf, keeper, prices, (1, ()))):
            self.check_refuses(NoKeeper, NO_KEEPERS, lambda value: call(SHELF, value, PRICES))
            self.check_refuses(NoKeeper, NO_KEEPERS, lambda value: call(SHELF, value, value))
            self.check_refuses(BadPrices, NO_PRICES, lambda value: call(SHELF, "a", value))
            self.check_refuses(BadPrices, NO_PRICES, lambda value: call(prices=value, shelf=SHELF, keeper="a"))
            for value in junk():
                self.check_keeps(BadPrices, value, call, SHELF, "a", value)
        # Prices are asked for ahead of help.
        never = Shelf("parts x y z w\nkeeper a x\nkeeper b y\nkeeper c z\nkeeper d w")
        self.check_refuses(BadPrices, NO_PRICES, lambda value: cheapest_fetched(never, "a", value))
        self.check_raises(NoHelp, 0, cheapest_fetched, never, "a", PRICES)
        for value in near(PRICES):
            if type(value) is not tuple or len(value) != 4 or not all(type(price) is int and 1 <= price <= 9
                                                                      for price in value):
                self.check_keeps(BadPrices, value, cheapest_fetched, SHELF, "a", value)


if __name__ == "__main__":
    unittest.main()
