"""What keepers can let go of, to have room."""

from lotkeepers.bringing import greatest_back
from lotkeepers.circles import is_lot
from lotkeepers.errors import BadHolding, Unsafe
from lotkeepers.forms import is_from_to
from lotkeepers.freest import serves
from lotkeepers.ledgers import MOST_WRITES
from lotkeepers.stores import refuse_number


def safe_below(store, holding):
    """The greatest stamp that each reading lot brings back, 0 if there is none."""
    refuse_holding(store, holding)
    return greatest_safe(store, holding)


def let_go(store, holding, stamp):
    """The holding behind all keepers' letting go of what is below the stamp."""
    refuse_holding(store, holding)
    if not is_from_to(stamp, 0, greatest_safe(store, holding)):
        raise Unsafe(stamp)
    return tuple([() if number + 1 < stamp else lot for number, lot in enumerate(holding)])


def brought_by(store, holding, ask):
    """The greatest stamp that this reading lot brings back, 0 if there is none."""
    refuse_holding(store, holding)
    refuse_number(store.asks, ask)
    return greatest_back(store.shelf, holding, store.asks[ask])


def refuse_holding(store, value):
    if not is_holding(store.shelf.circle, value):
        raise BadHolding(value)


def is_holding(circle, value):
    if not isinstance(value, tuple) or not 1 <= len(value) <= MOST_WRITES:
        return False
    return all([is_lot(circle, lot) for lot in value])


def greatest_safe(store, held):
    """As safe_below, of lots for any number of stamps."""
    # A lot brings a stamp back with each reading lot exactly if it serves these.
    return max([0] + [number + 1 for number, lot in enumerate(held) if serves(store.shelf, lot, store.asks)])
