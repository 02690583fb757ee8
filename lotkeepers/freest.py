"""The freest lots that serve those of a store."""

from lotkeepers.bringing import brings_back
from lotkeepers.circles import common, lots
from lotkeepers.errors import Unserved
from lotkeepers.families import least_of


def askers(store):
    """The family of the least lots that serve all writing lots."""
    refuse_unserved(store.shelf, store.writes)
    return least_serving(store.shelf, store.writes)


def writers(store):
    """The family of the least lots that serve all reading lots."""
    refuse_unserved(store.shelf, store.asks)
    return least_serving(store.shelf, store.asks)


def freed(store):
    """The least lots that serve all askers, and the askers."""
    asks = askers(store)
    return (least_serving(store.shelf, asks), asks)


def refuse_unserved(shelf, some):
    # All keepers serve a lot exactly if it brings back by itself.
    for number, lot in enumerate(some):
        if not brings_back(shelf, lot):
            raise Unserved(number)


def least_serving(shelf, some):
    return least_of(shelf.circle, [lot for lot in lots(shelf.circle) if serves(shelf, lot, some)])


def serves(shelf, lot, some):
    """Whether, with each of some lots, the keepers in both bring back."""
    for row in some:
        if not brings_back(shelf, common(lot, row)):
            return False
    return True
