"""Houses: it is written and read there while keepers fall, lose and forget, and one store is led into another one."""

from lotkeepers.circles import common
from lotkeepers.errors import Down, Full, IsUp, Misses, NoStamp, NoTrial, NotOf, NothingToRedo, NothingToUndo, Older
from lotkeepers.errors import Unsafe
from lotkeepers.forms import is_from_to
from lotkeepers.leading import across, refuse_store
from lotkeepers.logs import first_log
from lotkeepers.mending import refuse_helpers
from lotkeepers.scenes import begun, brought, first_older, given, led_to, rid_below, robbed, safe_stamp, stamps_ended
from lotkeepers.scenes import stamps_held, stamps_made, with_down
from lotkeepers.shelves import refuse_keeper, refuse_record
from lotkeepers.sound import refuse_unsound
from lotkeepers.stores import refuse_number

MOST_RECORDS = 20


class House:
    """A store that stands, and all that was done there.

    Beside what is promised, log has the deeds, how it stood behind each of them, and what was
    taken back; block is the innermost trial that is under way, None if there is none.
    """

    def __init__(self, store):
        refuse_unsound(store)
        self.first = store
        self.store = store
        self.records = ()
        self.ended = ()
        self.down = ()
        self.done = 0
        self.log = first_log(store)
        self.block = None

    def __len__(self):
        return len(self.records)

    def __eq__(self, other):
        # Journals tell nothing but the first store and the deeds.
        return isinstance(other, House) and self.first == other.first and self.log.deeds == other.log.deeds

    def holds(self, keeper):
        """The stamps whose pieces this keeper has."""
        refuse_keeper(self.store.shelf, keeper)
        return (0,) + stamps_held(self.log.scene, keeper)

    def put(self, number, record):
        """A write begins, and gives to all of its lot that are up."""
        refuse_number(self.store.writes, number)
        refuse_record(self.store.shelf, record)
        if len(self.records) == MOST_RECORDS:
            raise Full(MOST_RECORDS)
        self.add_deed(("put", number, record), begun(self.log.scene, number, record))
        return len(self.records)

    def give(self, stamp, keeper):
        """A keeper of this write's lot that has not its pieces gets them."""
        refuse_stamp(self, stamp)
        refuse_keeper(self.store.shelf, keeper)
        scene = self.log.scene
        lot = scene.writes[stamp - 1][1]
        if keeper not in lot or keeper in scene.held[stamp - 1]:
            raise NotOf(keeper)
        refuse_down(self, (keeper,))
        self.add_deed(("give", stamp, keeper), given(scene, (keeper,), (stamp,)))

    def fall(self, keeper):
        refuse_keeper(self.store.shelf, keeper)
        refuse_down(self, (keeper,))
        self.add_deed(("fall", keeper), with_down(self.log.scene, self.down + (keeper,)))

    def rise(self, keeper):
        refuse_keeper(self.store.shelf, keeper)
        if keeper not in self.down:
            raise IsUp(keeper)
        down = tuple([name for name in self.down if name != keeper])
        self.add_deed(("rise", keeper), with_down(self.log.scene, down))

    def lose(self, keeper):
        """The keeper loses all pieces, but for those of stamp 0."""
        refuse_keeper(self.store.shelf, keeper)
        refuse_down(self, (keeper,))
        self.add_deed(("lose", keeper), robbed(self.log.scene, keeper))

    def mend(self, keeper, helpers):
        """The keeper gets all pieces that it can make anew from those of the helpers."""
        refuse_keeper(self.store.shelf, keeper)
        refuse_helpers(self.store.shelf, keeper, helpers)
        refuse_down(self, (keeper,) + helpers)
        scene = self.log.scene
        stamps = stamps_made(scene, keeper, helpers)
        self.add_deed(("mend", keeper, helpers), given(scene, (keeper,), stamps))
        return stamps

    def read(self, number, back):
        """A read asks its lot, and gives what it brought to a writing lot if back is the number of one."""
        refuse_number(self.store.asks, number)
        lot = self.store.asks[number]
        if back is None:
            refuse_down(self, lot)
            return brought(self.log.scene, lot)
        refuse_number(self.store.writes, back)
        target = self.store.writes[back]
        refuse_down(self, lot + target)
        scene = self.log.scene
        stamp = brought(scene, lot)
        self.add_deed(("read", number, back), given(scene, target, (stamp,)))
        return stamp

    def let_go(self, stamp):
        """All keepers that are up let go of what is below the stamp."""
        refuse_stamp(self, stamp)
        scene = self.log.scene
        safe = safe_stamp(scene)
        if stamp > safe:
            raise Unsafe(safe)
        self.add_deed(("letgo", stamp), rid_below(scene, stamp))

    def lead(self, other, ask, number):
        """What a read brings is given to a writing lot of the other store; then this one stands."""
        refuse_store(self.store, other)
        refuse_unsound(other)
        told = across(self.store, other)
        if told[0] == "misses":
            raise Misses(told)
        scene = self.log.scene
        older = first_older(scene)
        if older is not None:
            raise Older(older)
        refuse_number(self.store.asks, ask)
        refuse_number(other.writes, number)
        lot = self.store.asks[ask]
        target = other.writes[number]
        refuse_down(self, lot + target)
        read_back = given(scene, target, (brought(scene, lot),))
        self.add_deed(("lead", other, ask, number), led_to(read_back, other))

    def undo(self):
        """Takes the last deed back that stands."""
        if self.done == 0:
            raise NothingToUndo(None)
        self.turn_to(self.log.taken_back())

    def redo(self):
        """Does the deed again that was taken back last."""
        if self.log.undone == ():
            raise NothingToRedo(None)
        self.turn_to(self.log.done_again())

    def trial(self):
        """What a block is entered with, behind which the house is as it was ahead, unless it is kept."""
        return Trial(self)

    def keep(self):
        """What is done in the innermost block stands behind it."""
        block = self.block
        if block is None:
            raise NoTrial(None)
        block.kept = True

    def tried(self, look, *, keep=False):
        """What look returns, called with the house within a block."""
        with self.trial() as held:
            told = look(held)
            if keep is True:
                held.keep()
        return told

    def copy(self):
        """An independent house, alike in all things, outside of all blocks."""
        other = House(self.first)
        other.turn_to(self.log)
        return other

    def add_deed(self, deed, scene):
        self.turn_to(self.log.with_deed(deed, scene))

    def turn_to(self, log):
        """Stands as this log tells."""
        scene = log.scene
        self.log = log
        self.store = scene.store
        self.records = tuple([row[0] for row in scene.writes])
        self.ended = stamps_ended(scene)
        self.down = scene.down
        self.done = len(log.deeds)


class Trial:
    """A block of a house: what it was when the block was entered. kept is None until the block is kept."""

    def __init__(self, house):
        self.house = house
        self.kept = None

    def __enter__(self):
        house = self.house
        self.outer = house.block
        self.log = house.log
        self.store = house.store
        self.records = house.records
        self.ended = house.ended
        self.down = house.down
        self.done = house.done
        house.block = self
        return house

    def __exit__(self, kind, value, trace):
        house = self.house
        house.block = self.outer
        if kind is not None or self.kept is None:
            house.log = self.log
            house.store = self.store
            house.records = self.records
            house.ended = self.ended
            house.down = self.down
            house.done = self.done


def refuse_stamp(house, value):
    """Unless this is the stamp of a write."""
    if not is_from_to(value, 1, len(house.records)):
        raise NoStamp(value)


def refuse_down(house, some):
    """Unless all of these keepers are up."""
    down = common(house.down, some)
    if down != ():
        raise Down(down)
