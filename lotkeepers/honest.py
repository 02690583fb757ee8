"""Stores some of whose keepers lie."""

from lotkeepers.circles import common, lots
from lotkeepers.errors import Unserved
from lotkeepers.families import least_of
from lotkeepers.forms import is_number_of, is_told
from lotkeepers.lies import MOST_LIARS, is_open, overruled, refuse_bound, sure_lots
from lotkeepers.sound import refuse_unsound, shared


def honest(store, bound):
    """Whether all shared lots are sure against so many liars."""
    refuse_bound(bound)
    for write in range(len(store.writes)):
        for ask in range(len(store.asks)):
            told = overruled(store.shelf, shared(store, write, ask), bound)
            if told[0] == "open":
                return ("misses", write, ask) + told[1:]
    return ("sound",)


def shows_honest(store, bound, value):
    refuse_bound(bound)
    if not is_told(value, "misses", 6):
        return value == ("sound",) and is_honest(store, bound)
    if not is_number_of(value[1], store.writes) or not is_number_of(value[2], store.asks):
        return False
    return is_open(store.shelf, shared(store, value[1], value[2]), bound, value[3], value[4], value[5])


def most_lies(store):
    """The greatest bound that the store stands."""
    refuse_unsound(store)
    return max([bound for bound in range(MOST_LIARS + 1) if is_honest(store, bound)])


def honest_askers(store, bound):
    """The family of the least lots of which, with each writing lot, the keepers in both are sure."""
    refuse_bound(bound)
    sure = sure_lots(store.shelf, bound)
    for number, lot in enumerate(store.writes):
        if lot not in sure:
            raise Unserved(number)
    circle = store.shelf.circle
    return least_of(circle, [lot for lot in lots(circle) if all([common(lot, row) in sure for row in store.writes])])


def is_honest(store, bound):
    return honest(store, bound) == ("sound",)
