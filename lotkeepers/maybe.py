"""What a read may bring that is asked from now on."""

from lotkeepers.bringing import brings_back, greatest_back
from lotkeepers.circles import common, is_lot, is_within
from lotkeepers.errors import BadState
from lotkeepers.forms import is_number_of, is_row
from lotkeepers.ledgers import MOST_WRITES
from lotkeepers.stores import refuse_number


def may_bring(store, state, ask):
    """All stamps that such a read may bring."""
    refuse_state(store, state)
    refuse_number(store.asks, ask)
    least = greatest_back(store.shelf, [lot for _, lot in state], store.asks[ask])
    # Whoever of a writing lot has not got it yet may get it ahead of being asked.
    greater = range(least + 1, len(state) + 1)
    writes = [store.writes[number] for number, _ in state]
    more = [stamp for stamp in greater if brings_back(store.shelf, common(writes[stamp - 1], store.asks[ask]))]
    return tuple([least] + more)


def surely_brings(store, state, ask):
    """The least stamp that such a read may bring."""
    return may_bring(store, state, ask)[0]


def refuse_state(store, value):
    if not isinstance(value, tuple) or len(value) > MOST_WRITES or not all([is_part(store, row) for row in value]):
        raise BadState(value)


def is_part(store, value):
    """Whether this is the number of a writing lot and a lot within it."""
    if not is_row(value, 2) or not is_number_of(value[0], store.writes):
        return False
    return is_lot(store.shelf.circle, value[1]) and is_within(value[1], store.writes[value[0]])
