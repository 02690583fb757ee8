"""What has come of the deeds of a run so far."""

from lotkeepers.bringing import brings_back
from lotkeepers.forms import is_from_to, is_number_of, is_row
from lotkeepers.shelves import is_record

MOST_DEEDS = 40
MOST_WRITES = 6
MOST_READS = 6


class Round:
    """Keepers each of whom is to be reached once, and the number of the deed by which all of them were."""

    def __init__(self, keepers):
        self.keepers = keepers
        self.reached = []
        self.end = None

    def lacks(self, value):
        """Whether this is one of the keepers, and was not reached yet."""
        return value in self.keepers and value not in self.reached

    def reach(self, keeper, at):
        self.reached.append(keeper)
        if len(self.reached) == len(self.keepers):
            self.end = at


class Writing:
    """A write that has begun."""

    def __init__(self, number, signs, begin, keepers):
        self.number = number
        self.signs = signs
        self.begin = begin
        self.gives = Round(keepers)


class Reading:
    """A read that has begun: it asks its lot, and, if back is a number, gives what it brought to a writing lot."""

    def __init__(self, number, back, begin, keepers, target):
        self.number = number
        self.back = back
        self.begin = begin
        self.asks = Round(keepers)
        self.agains = Round(target)
        self.tellers = {}
        self.brings = None

    def hear_of(self, shelf, keeper, stamps, at):
        self.asks.reach(keeper, at)
        for stamp in stamps:
            self.tellers.setdefault(stamp, []).append(keeper)
        if self.asks.end is not None:
            self.brings = max([0] + [stamp for stamp in self.tellers if brings_back(shelf, self.tellers[stamp])])

    def can_give(self, value):
        """Whether this is a keeper to whom it can give what it brought."""
        return self.asks.end is not None and self.agains.lacks(value)

    def ended_by(self):
        """The number of the deed by which it ended, None if it did not."""
        return self.asks.end if self.back is None else self.agains.end


class Ledger:
    """The writes, the reads, and for each keeper the stamps that it has."""

    def __init__(self, store):
        self.store = store
        self.many = 0
        self.writes = []
        self.reads = []
        self.held = {keeper: [0] for keeper in store.shelf.circle.names}

    def can_do(self, deed):
        """Whether any value is a deed that can be done now."""
        if not is_row(deed, 3):
            return False
        word, number, last = deed
        if word == "write":
            return self.can_write(number, last)
        if word == "give":
            return is_from_to(number, 1, len(self.writes)) and self.writes[number - 1].gives.lacks(last)
        if word == "read":
            return self.can_read(number, last)
        if word == "ask":
            return is_number_of(number, self.reads) and self.reads[number].asks.lacks(last)
        return word == "again" and is_number_of(number, self.reads) and self.reads[number].can_give(last)

    def can_write(self, number, signs):
        if len(self.writes) == MOST_WRITES:
            return False
        return is_number_of(number, self.store.writes) and is_record(self.store.shelf, signs)

    def can_read(self, number, back):
        if len(self.reads) == MOST_READS or not is_number_of(number, self.store.asks):
            return False
        return back is None or is_number_of(back, self.store.writes)

    def do(self, deed):
        """Does a deed that can be done."""
        word, number, last = deed
        if word == "write":
            self.writes.append(Writing(number, last, self.many, self.store.writes[number]))
        elif word == "read":
            target = () if last is None else self.store.writes[last]
            self.reads.append(Reading(number, last, self.many, self.store.asks[number], target))
        elif word == "ask":
            self.reads[number].hear_of(self.store.shelf, last, self.held[last], self.many)
        elif word == "give":
            self.writes[number - 1].gives.reach(last, self.many)
            self.add_to(last, number)
        else:
            self.reads[number].agains.reach(last, self.many)
            self.add_to(last, self.reads[number].brings)
        self.many += 1

    def add_to(self, keeper, stamp):
        if stamp not in self.held[keeper]:
            self.held[keeper].append(stamp)


def first_wrong(ledger, deeds):
    """Does all deeds; if that cannot be, the number by which they are refused, otherwise None."""
    if not isinstance(deeds, tuple) or len(deeds) > MOST_DEEDS:
        return 0
    for number, deed in enumerate(deeds):
        if not ledger.can_do(deed):
            return number + 1
        ledger.do(deed)
    return None


def is_run(store, value):
    """Whether these are the deeds of a run of the store."""
    return first_wrong(Ledger(store), value) is None
