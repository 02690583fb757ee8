"""Stores of which each reading lot shares enough with each writing lot."""

from lotkeepers.bringing import brings, shows_brings
from lotkeepers.circles import common
from lotkeepers.errors import Unsound
from lotkeepers.forms import is_number_of, is_row, is_told
from lotkeepers.stores import refuse_number


def shared(store, write, ask):
    """The lot of the keepers in both."""
    refuse_number(store.writes, write)
    refuse_number(store.asks, ask)
    return common(store.writes[write], store.asks[ask])


def sound(store):
    papers = []
    for write in range(len(store.writes)):
        row = []
        for ask in range(len(store.asks)):
            told = brings(store.shelf, shared(store, write, ask))
            if told[0] == "lost":
                return ("misses", write, ask, told[1])
            row.append(told[1])
        papers.append(tuple(row))
    return ("sound", tuple(papers))


def shows_sound(store, value):
    if is_told(value, "misses", 4):
        return is_miss(store, value[1], value[2], value[3])
    if not is_told(value, "sound", 2) or not is_row(value[1], len(store.writes)):
        return False
    return all([is_paper(store, write, row) for write, row in enumerate(value[1])])


def refuse_unsound(store):
    told = sound(store)
    if told[0] != "sound":
        raise Unsound(told)


def is_miss(store, write, ask, record):
    if not is_number_of(write, store.writes) or not is_number_of(ask, store.asks):
        return False
    return shows_brings(store.shelf, shared(store, write, ask), ("lost", record))


def is_paper(store, write, row):
    """Whether this is what sound tells of a writing lot."""
    if not is_row(row, len(store.asks)):
        return False
    lots_met = [shared(store, write, ask) for ask in range(len(store.asks))]
    return all([shows_brings(store.shelf, lot, ("back", sums)) for lot, sums in zip(lots_met, row)])
