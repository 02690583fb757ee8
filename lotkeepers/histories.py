"""Histories: writes and reads as they are seen from without."""

from lotkeepers.errors import BadHistory
from lotkeepers.forms import is_from_to, is_one_of, is_row

MOST_CALLS = 12
MOST_TIME = 99


def seen(run):
    """The history of a run."""
    writes = [("write", number + 1, row[2], row[3]) for number, row in enumerate(run.writes)]
    ended = [number for number, row in enumerate(run.reads) if row[3] is not None]
    reads = [("read", run.brought(number), run.reads[number][2], run.reads[number][3]) for number in ended]
    return tuple(writes + reads)


def regular(history):
    """Whether each read tells a write that it may tell by what had ended ahead of it."""
    refuse_history(history)
    return all_bars(history)[0]


def shows_regular(history, value):
    refuse_history(history)
    return is_one_of(value, all_bars(history))


def refuse_history(value):
    if not is_history(value):
        raise BadHistory(value)


def is_history(value):
    if not isinstance(value, tuple) or len(value) > MOST_CALLS or not all([is_call(call) for call in value]):
        return False
    times = [at for call in value for at in call[2:] if at is not None]
    written = [call[1] for call in value if call[0] == "write"]
    if len(set(times)) < len(times) or len(set(written)) < len(written):
        return False
    return all([call[1] in written or call[1] == 0 for call in value])


def is_call(value):
    if not is_row(value, 4):
        return False
    word, stamp, begin, end = value
    if not is_from_to(begin, 0, MOST_TIME):
        return False
    if word == "write":
        return is_from_to(stamp, 1, MOST_TIME) and (end is None or is_from_to(end, begin + 1, MOST_TIME))
    return word == "read" and is_from_to(stamp, 0, MOST_TIME) and is_from_to(end, begin + 1, MOST_TIME)


def is_ahead(call, other):
    return call[3] is not None and call[3] < other[2]


def numbers_of(history, word):
    """The numbers of the calls of this kind."""
    return [number for number, call in enumerate(history) if call[0] == word]


def write_of(history, stamp):
    """The number of the write with this stamp, None if there is none, as of 0."""
    for number in numbers_of(history, "write"):
        if history[number][1] == stamp:
            return number
    return None


def all_bars(history):
    """All that regular may tell."""
    pairs = [(read, write) for read in numbers_of(history, "read") for write in bars(history, read)]
    return [("irregular",) + pair for pair in pairs] or [("regular",)]


def bars(history, read):
    """The numbers of the writes that bar a read."""
    call = history[read]
    own = write_of(history, call[1])
    if own is not None and begins_too_late(history[own], call):
        return [own]
    ahead = [write for write in numbers_of(history, "write") if is_ahead(history[write], call)]
    return [write for write in ahead if own is None or is_ahead(history[own], history[write])]


def begins_too_late(write, read):
    """Whether a read ends ahead of the begin of a write."""
    return read[3] < write[2]
