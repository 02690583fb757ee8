"""One store led over into another one, while reads and writes go on."""

from lotkeepers.errors import BadWay, OtherShelf
from lotkeepers.forms import is_one_of, is_told
from lotkeepers.sound import is_miss, met, shows_met
from lotkeepers.stores import Store

LEAST_STORES = 2
MOST_STORES = 6


def across(one, other):
    """Whether each writing lot of one shares enough with each reading lot of other."""
    refuse_store(one, other)
    return met(one, other, "across")


def shows_across(one, other, value):
    refuse_store(one, other)
    return shows_met(one, other, "across", value)


def led(way):
    """Whether no read misses, along the way."""
    refuse_way(way)
    return judged(way, led_pairs(way))


def shows_led(way, value):
    refuse_way(way)
    return shows_judged(way, led_pairs(way), value)


def copied(way):
    """Whether no read misses, if what is read is given to each next store ahead of its standing."""
    refuse_way(way)
    return judged(way, copied_pairs(way))


def shows_copied(way, value):
    refuse_way(way)
    return shows_judged(way, copied_pairs(way), value)


def refuse_store(one, value):
    if not isinstance(value, Store) or value.shelf != one.shelf:
        raise OtherShelf(value)


def refuse_way(value):
    if not is_way(value):
        raise BadWay(value)


def is_way(value):
    if not isinstance(value, tuple) or not LEAST_STORES <= len(value) <= MOST_STORES:
        return False
    return all([isinstance(store, Store) for store in value]) and are_alike([store.shelf for store in value])


def are_alike(shelves):
    return all([shelf == shelves[0] for shelf in shelves])


def led_pairs(way):
    """The numbers of all stores to be across: a write of the first one may be asked for in the second one."""
    return [(early, late) for early in range(len(way)) for late in range(early, len(way))]


def copied_pairs(way):
    return [(early, late) for early, late in led_pairs(way) if late <= early + 1]


def judged(way, pairs):
    """Whether the stores of these pairs are across, by the words of led."""
    for early, late in pairs:
        told = across(way[early], way[late])
        if told[0] == "misses":
            return ("misses", early, late) + told[1:]
    return ("led",)


def shows_judged(way, pairs, value):
    if not is_told(value, "misses", 6):
        return value == ("led",) and judged(way, pairs) == ("led",)
    return is_one_of(value[1:3], pairs) and is_miss(way[value[1]], way[value[2]], value[3:])
