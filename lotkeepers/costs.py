"""What is needless in a store, and what its lots cost."""

from lotkeepers.circles import is_within, less
from lotkeepers.errors import BadPrices
from lotkeepers.forms import is_from_to, is_row
from lotkeepers.freest import serves
from lotkeepers.sound import refuse_unsound

MOST_PRICE = 9


def needless(store):
    """The numbers of the lots that have another one of their kind within."""
    return (numbers_needless(store.writes), numbers_needless(store.asks))


def slack(store):
    """For each lot, the lot of its keepers each of which, by itself, can be left out of it."""
    refuse_unsound(store)
    writes = tuple([slack_of(store.shelf, lot, store.asks) for lot in store.writes])
    asks = tuple([slack_of(store.shelf, lot, store.writes) for lot in store.asks])
    return (writes, asks)


def cheapest_lots(store, prices):
    """The least price of a writing lot, and of a reading lot, each with the first lot at this price."""
    refuse_prices(store.shelf.circle, prices)
    return (first_cheapest(store, store.writes, prices), first_cheapest(store, store.asks, prices))


def numbers_needless(some):
    return tuple([number for number, lot in enumerate(some) if has_other_within(some, lot)])


def has_other_within(some, lot):
    return any([other != lot and is_within(other, lot) for other in some])


def slack_of(shelf, lot, others):
    """The keepers of the lot each of which, by itself, can be left out, and it serves the others still."""
    return tuple([keeper for keeper in lot if serves(shelf, less(lot, (keeper,)), others)])


def first_cheapest(store, some, prices):
    return min([(lot_price(store, lot, prices), number) for number, lot in enumerate(some)])


def lot_price(store, lot, prices):
    return sum([price for keeper, price in zip(store.shelf.circle.names, prices) if keeper in lot])


def is_price(value):
    return is_from_to(value, 1, MOST_PRICE)


def refuse_prices(circle, value):
    if not is_row(value, len(circle)) or not all([is_price(price) for price in value]):
        raise BadPrices(value)
