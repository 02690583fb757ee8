"""Whether a later read can bring less than an earlier one, in all runs of a store."""

from lotkeepers.allruns import read_deeds, write_deeds
from lotkeepers.bringing import least_backs
from lotkeepers.circles import common, is_within, refuse_lot
from lotkeepers.errors import NoTurn
from lotkeepers.forms import is_number_of, is_told
from lotkeepers.runs import Run
from lotkeepers.sound import refuse_unsound
from lotkeepers.stores import refuse_number


def steady(store):
    """How two reads can turn about, if they can."""
    refuse_unsound(store)
    found = all_turns(store)
    return ("turns",) + found[0] if len(found) > 0 else ("steady",)


def shows_steady(store, value):
    refuse_unsound(store)
    if not is_told(value, "turns", 5):
        return value == ("steady",) and len(all_turns(store)) == 0
    numbers = value[1:4]
    if not is_number_of(numbers[0], store.writes) or not all([is_number_of(at, store.asks) for at in numbers[1:]]):
        return False
    return value[4] in lots_turning(store, least_backs(store.shelf), numbers)


def turning_run(store, write, first, second, lot):
    """The run in which the second read brings less than the first one."""
    refuse_number(store.writes, write)
    refuse_number(store.asks, first)
    refuse_number(store.asks, second)
    refuse_lot(store.shelf.circle, lot)
    if lot not in lots_turning(store, least_backs(store.shelf), (write, first, second)):
        raise NoTurn(lot)
    record = "1" * len(store.shelf.parts)
    reads = read_deeds(0, first, store.asks[first]) + read_deeds(1, second, store.asks[second])
    return Run(store, write_deeds(write, record, lot) + reads)


def lots_turning(store, backs, numbers):
    """Those of the lots that are within the writing lot and the first reading lot, and not within the second."""
    write, first, second = store.writes[numbers[0]], store.asks[numbers[1]], store.asks[numbers[2]]
    return [lot for lot in backs if is_within(lot, common(write, first)) and not is_within(lot, second)]


def all_turns(store):
    """All that steady may tell behind "turns"."""
    backs = least_backs(store.shelf)
    asks = range(len(store.asks))
    rows = [(write, first, second) for write in range(len(store.writes)) for first in asks for second in asks]
    return [row + (lot,) for row in rows for lot in lots_turning(store, backs, row)]
