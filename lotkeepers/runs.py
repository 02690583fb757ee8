"""Runs of a store: what is done, deed by deed."""

from lotkeepers.errors import BadRun, NoRead, NoStamp
from lotkeepers.forms import is_from_to, is_number_of
from lotkeepers.ledgers import Ledger, first_wrong
from lotkeepers.shelves import refuse_keeper


class Run:
    """Deeds of a store, and what they come to.

    Beside what is promised, heard tells of each read the number of the deed by which it
    had heard, None if it has not.
    """

    def __init__(self, store, deeds):
        ledger = Ledger(store)
        wrong = first_wrong(ledger, deeds)
        if wrong is not None:
            raise BadRun(wrong)
        self.store = store
        self.deeds = deeds
        self.writes = tuple([(row.number, row.signs, row.begin, row.gives.end) for row in ledger.writes])
        self.reads = tuple([(row.number, row.back, row.begin, row.ended_by()) for row in ledger.reads])
        self.heard = tuple([row.asks.end for row in ledger.reads])
        self.ledger = ledger

    def __eq__(self, other):
        return isinstance(other, Run) and self.store == other.store and self.deeds == other.deeds

    def brought(self, read):
        """The stamp that this read brings, None if it has not heard."""
        refuse_read(self, read)
        return self.ledger.reads[read].brings

    def record(self, stamp):
        refuse_stamp(self, stamp)
        return "0" * len(self.store.shelf.parts) if stamp == 0 else self.writes[stamp - 1][1]

    def has(self, keeper):
        """The stamps whose pieces this keeper has at the end."""
        refuse_keeper(self.store.shelf, keeper)
        return tuple(sorted(self.ledger.held[keeper]))

    def told(self, read, stamp):
        """The lot of the keepers who told this read of this stamp."""
        refuse_read(self, read)
        refuse_stamp(self, stamp)
        tellers = self.ledger.reads[read].tellers.get(stamp, [])
        return tuple([keeper for keeper in self.store.shelf.circle.names if keeper in tellers])


def refuse_read(run, value):
    if not is_number_of(value, run.reads):
        raise NoRead(value)


def refuse_stamp(run, value):
    if not is_from_to(value, 0, len(run.writes)):
        raise NoStamp(value)
