"""Stores of which each reading lot shares enough with each writing lot."""

from lotkeepers.bringing import brings, shows_brings
from lotkeepers.circles import common
from lotkeepers.errors import Unsound
from lotkeepers.forms import is_number_of, is_row, is_told
from lotkeepers.stores import refuse_number


def shared(store, write, ask):
    """The lot of the keepers in both."""
    refuse_number(store.writes, write)
    refuse_number(store.asks, ask)
    return common(store.writes[write], store.asks[ask])


def sound(store):
    return met(store, store, "sound")


def shows_sound(store, value):
    return shows_met(store, store, "sound", value)


def refuse_unsound(store):
    told = sound(store)
    if told[0] != "sound":
        raise Unsound(told)


def met(one, other, word):
    """Whether each writing lot of one and each reading lot of other share enough: this word, with papers, if so."""
    papers = []
    for write, lot in enumerate(one.writes):
        row = []
        for ask, asked in enumerate(other.asks):
            told = brings(one.shelf, common(lot, asked))
            if told[0] == "lost":
                return ("misses", write, ask, told[1])
            row.append(told[1])
        papers.append(tuple(row))
    return (word, tuple(papers))


def shows_met(one, other, word, value):
    if is_told(value, "misses", 4):
        return is_miss(one, other, value[1:])
    if not is_told(value, word, 2) or not is_row(value[1], len(one.writes)):
        return False
    return all([is_paper(one.shelf, lot, other.asks, row) for lot, row in zip(one.writes, value[1])])


def is_miss(one, other, value):
    """Whether these three values are as "misses" tells them of a writing lot of one and a reading lot of other."""
    write, ask, record = value
    if not is_number_of(write, one.writes) or not is_number_of(ask, other.asks):
        return False
    return shows_brings(one.shelf, common(one.writes[write], other.asks[ask]), ("lost", record))


def is_paper(shelf, lot, asks, row):
    """Whether these are the papers of a writing lot: sums for each reading lot."""
    if not is_row(row, len(asks)):
        return False
    pairs = list(zip(asks, row))
    return all([shows_brings(shelf, common(lot, asked), ("back", sums)) for asked, sums in pairs])
