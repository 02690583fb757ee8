"""Which pieces of others have to be fetched, to make lost ones anew."""

from lotkeepers.bringing import is_sum_of, reach, spots_of
from lotkeepers.costs import refuse_prices
from lotkeepers.forms import is_integer, is_row
from lotkeepers.mending import refuse_helpers, refuse_no_help
from lotkeepers.shelves import refuse_keeper


def fewest_fetched(shelf, keeper, helpers):
    """The least number of pieces of helpers by which all pieces of the keeper come, and such spots."""
    refuse_fewest(shelf, keeper, helpers)
    return least_fetched(shelf, (keeper,), helpers, ones(shelf))


def shows_fewest_fetched(shelf, keeper, helpers, value):
    refuse_fewest(shelf, keeper, helpers)
    return is_least_fetched(shelf, (keeper,), helpers, ones(shelf), value)


def cheapest_fetched(shelf, keeper, prices):
    """The least price of pieces of others by which all pieces of the keeper come, and such spots."""
    refuse_cheapest(shelf, keeper, prices)
    return least_fetched(shelf, (keeper,), shelf.circle.rest((keeper,)), prices)


def shows_cheapest_fetched(shelf, keeper, prices, value):
    refuse_cheapest(shelf, keeper, prices)
    return is_least_fetched(shelf, (keeper,), shelf.circle.rest((keeper,)), prices, value)


def refuse_fewest(shelf, keeper, helpers):
    refuse_keeper(shelf, keeper)
    refuse_helpers(shelf, keeper, helpers)
    refuse_no_help(shelf, keeper, helpers)


def refuse_cheapest(shelf, keeper, prices):
    refuse_keeper(shelf, keeper)
    refuse_prices(shelf.circle, prices)
    refuse_no_help(shelf, keeper, shelf.circle.rest((keeper,)))


def ones(shelf):
    """Prices by which a sum of prices is how many pieces there are."""
    return (1,) * len(shelf.circle)


def least_fetched(shelf, lost, helpers, prices):
    """The least price of pieces of helpers by sums of which all pieces of the lost keepers come, and such spots.

    The helpers can make them all anew.
    """
    rows = [spots for spots in few_spots(shelf, helpers) if makes_all(shelf, lost, spots)]
    return min([(spots_price(shelf, spots, prices), spots) for spots in rows])


def is_least_fetched(shelf, lost, helpers, prices, value):
    """Whether any value is as least_fetched tells it."""
    price, _ = least_fetched(shelf, lost, helpers, prices)
    if not is_row(value, 2) or not is_integer(value[0]) or value[0] != price:
        return False
    if not is_sum_of(shelf, helpers, value[1]) or not makes_all(shelf, lost, value[1]):
        return False
    return spots_price(shelf, value[1], prices) == price


def few_spots(shelf, lot):
    """All choices of spots of the lot, no more than there are parts.

    More are never the cheapest: some piece of them is a sum of the others.
    """
    rows = [()]
    for spot in spots_of(shelf, lot):
        rows = rows + [row + (spot,) for row in rows if len(row) < len(shelf.parts)]
    return rows


def makes_all(shelf, lost, spots):
    """Whether all pieces of the lost keepers are sums of these."""
    found = reach(shelf, spots)
    return all([shelf.codes[spot] in found for spot in spots_of(shelf, lost)])


def spots_price(shelf, spots, prices):
    names = shelf.circle.names
    return sum([prices[names.index(keeper)] for keeper, _ in spots])
