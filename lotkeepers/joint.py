"""Stores by which one gets from one store to another one."""

from lotkeepers.errors import TooMany
from lotkeepers.families import least_with_both
from lotkeepers.leading import led, refuse_store
from lotkeepers.sound import refuse_unsound
from lotkeepers.stores import MOST_LOTS, made_of


def joint(one, other):
    """The store whose lots are the least ones that have lots of both stores within."""
    refuse_store(one, other)
    writes = least_with_both(one.shelf.circle, one.writes, other.writes)
    asks = least_with_both(one.shelf.circle, one.asks, other.asks)
    if max(len(writes), len(asks)) > MOST_LOTS:
        raise TooMany(MOST_LOTS)
    return made_of(one.shelf, writes, asks)


def by_joint(one, other):
    """The way from one by the store of both to the other one."""
    refuse_store(one, other)
    refuse_unsound(one)
    refuse_unsound(other)
    way = (one, joint(one, other), other)
    # The store of both is across to each of them, and they to it, so the way is copied in any case.
    return ("led" if led(way) == ("led",) else "copied", way)
