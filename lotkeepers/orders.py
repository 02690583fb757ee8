"""Whether a history is as if its calls were done one at a time."""

from lotkeepers.errors import NoStamp
from lotkeepers.forms import is_integer, is_number_of, is_one_of, is_told
from lotkeepers.histories import begins_too_late, is_ahead, numbers_of, refuse_history, write_of

LEFT_OFF = 100


def zone(history, stamp):
    refuse_history(history)
    if not is_integer(stamp) or stamp not in stamps(history):
        raise NoStamp(stamp)
    return zone_of(history, stamp)


def one_at_a_time(history):
    """An order of the history, or what bars all."""
    refuse_history(history)
    barred = all_barred(history)
    return barred[0] if len(barred) > 0 else ("order", some_order(history))


def shows_one_at_a_time(history, value):
    refuse_history(history)
    if is_told(value, "order", 2):
        return is_order(history, value[1])
    return is_one_of(value, all_barred(history))


def stamps(history):
    return [0] + [history[number][1] for number in numbers_of(history, "write")]


def edges(history, stamp):
    """The least end and the greatest begin of the calls of a stamp."""
    calls = [call for call in history if call[1] == stamp]
    begins = [call[2] for call in calls]
    ends = [call[3] for call in calls if call[3] is not None] + [LEFT_OFF]
    # Stamp 0 has a write ahead of all times that calls may have.
    if stamp == 0:
        begins.append(-2)
        ends.append(-1)
    return (min(ends), max(begins))


def zone_of(history, stamp):
    """As zone, of a stamp of the history."""
    left, right = edges(history, stamp)
    return ("forward", left, right) if left < right else ("backward", right, left)


def all_barred(history):
    """All that one_at_a_time may tell of a history that has no order."""
    early = [("early", read) for read in numbers_of(history, "read") if is_early(history, read)]
    if len(early) > 0:
        return early
    rows = [(stamp, zone_of(history, stamp)) for stamp in stamps(history)]
    pairs = [(one, other) for one in rows for other in rows if one[0] != other[0]]
    return [("zones", one[0], other[0]) for one, other in pairs if leave_no_order(one[1], other[1])]


def is_early(history, read):
    own = write_of(history, history[read][1])
    return own is not None and begins_too_late(history[own], history[read])


def leave_no_order(one, other):
    """Whether the first one of two zones is forward, and bars the second one."""
    if one[0] == "backward":
        return False
    if other[0] == "forward":
        return one[1] < other[2] and other[1] < one[2]
    return one[1] < other[1] and other[2] < one[2]


def some_order(history):
    """An order of a history that nothing bars: one that has the calls of each stamp side by side."""
    rest = stamps(history)
    order = []
    while len(rest) > 0:
        first = [stamp for stamp in rest if may_be_first(history, stamp, rest)][0]
        order.extend(block(history, first))
        rest.remove(first)
    return tuple(order)


def may_be_first(history, stamp, rest):
    """Whether no call of another stamp of the rest is ahead of a call of this one."""
    begin = edges(history, stamp)[1]
    return not any([other != stamp and edges(history, other)[0] < begin for other in rest])


def block(history, stamp):
    """The calls of a stamp, its write first, each read behind those that are ahead of it."""
    calls = [(history[number][2], number) for number in numbers_of(history, "read") if history[number][1] == stamp]
    reads = [number for _, number in sorted(calls)]
    return reads if stamp == 0 else [write_of(history, stamp)] + reads


def is_order(history, value):
    if not isinstance(value, tuple) or not all([is_number_of(number, history) for number in value]):
        return False
    ended = [number for number, call in enumerate(history) if call[3] is not None]
    if len(set(value)) < len(value) or not all([number in value for number in ended]):
        return False
    calls = [history[number] for number in value]
    return stand_in_sequence(calls) and tell_the_last(calls)


def stand_in_sequence(calls):
    """Whether no call stands behind one that it is ahead of."""
    return not any([is_ahead(call, other) for place, call in enumerate(calls) for other in calls[:place]])


def tell_the_last(calls):
    """Whether each read tells the last write that stands ahead of it, or 0 if there is none."""
    last = 0
    for call in calls:
        if call[0] == "write":
            last = call[1]
        elif call[1] != last:
            return False
    return True
