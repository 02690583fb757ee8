"""Whether reads can miss, in all runs of a store."""

from lotkeepers.forms import is_told
from lotkeepers.judging import missed
from lotkeepers.ledgers import is_run
from lotkeepers.runs import Run
from lotkeepers.sound import sound


def misses(store):
    """The deeds of a run in which a read misses, if there is one."""
    told = sound(store)
    if told[0] == "sound":
        return ("never",)
    # Only the keepers in both lots tell this read of this write, and they do not bring back.
    write, ask = told[1], told[2]
    record = "0" * len(store.shelf.parts)
    deeds = write_deeds(write, record, store.writes[write]) + read_deeds(0, ask, store.asks[ask])
    return ("run", deeds)


def shows_misses(store, value):
    if not is_told(value, "run", 2):
        return value == ("never",) and sound(store)[0] == "sound"
    return is_run(store, value[1]) and missed(Run(store, value[1]))[0] == "missed"


def write_deeds(number, record, keepers):
    """The first write begins, and is given to these keepers."""
    return (("write", number, record),) + tuple([("give", 1, keeper) for keeper in keepers])


def read_deeds(read, number, keepers):
    """A read that is asked once begins, and asks these keepers."""
    return (("read", number, None),) + tuple([("ask", read, keeper) for keeper in keepers])
