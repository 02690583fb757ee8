"""How a house stands behind its deeds so far."""

from lotkeepers.bringing import greatest_back
from lotkeepers.circles import common, is_within, less
from lotkeepers.forgetting import greatest_safe
from lotkeepers.mending import makes


class Scene:
    """One standing of a house. It never changes: each deed makes another one.

    age is how many stores stood ahead of the store. writes tells of each write its record,
    its lot, and the age in which it began; had and held tell of each write the lots of those
    who got its pieces at some time, and of those who have them now.
    """

    def __init__(self, store, age, writes, had, held, down):
        self.store = store
        self.age = age
        self.writes = writes
        self.had = had
        self.held = held
        self.down = down


def first_scene(store):
    return Scene(store, 0, (), (), (), ())


def begun(scene, number, signs):
    """A write begins, and gives to all of its lot that are up."""
    lot = scene.store.writes[number]
    up = (less(lot, scene.down),)
    writes = scene.writes + ((signs, lot, scene.age),)
    return Scene(scene.store, scene.age, writes, scene.had + up, scene.held + up, scene.down)


def given(scene, lot, stamps):
    """All keepers of the lot get the pieces of these stamps."""
    circle = scene.store.shelf.circle
    had, held = [tuple([circle.lot(row + lot) if number + 1 in stamps else row for number, row in enumerate(rows)])
                 for rows in (scene.had, scene.held)]
    return Scene(scene.store, scene.age, scene.writes, had, held, scene.down)


def with_held(scene, held):
    return Scene(scene.store, scene.age, scene.writes, scene.had, tuple(held), scene.down)


def robbed(scene, keeper):
    """The keeper loses all its pieces."""
    return with_held(scene, [less(row, (keeper,)) for row in scene.held])


def rid_below(scene, stamp):
    """All keepers that are up let go of what is below the stamp."""
    return with_held(scene, [common(row, scene.down) if number + 1 < stamp else row
                             for number, row in enumerate(scene.held)])


def with_down(scene, some):
    """Just these keepers are down."""
    down = scene.store.shelf.circle.lot(some)
    return Scene(scene.store, scene.age, scene.writes, scene.had, scene.held, down)


def led_to(scene, other):
    """Another store stands."""
    return Scene(other, scene.age + 1, scene.writes, scene.had, scene.held, scene.down)


def stamps_ended(scene):
    """The stamps of the writes all of whose lot got their pieces at some time."""
    rows = list(zip(scene.writes, scene.had))
    return tuple([number + 1 for number, (write, had) in enumerate(rows) if is_within(write[1], had)])


def first_older(scene):
    """The first stamp of a write that began in an elder store, and has not ended; None if there is none."""
    ended = stamps_ended(scene)
    for number, (_, _, age) in enumerate(scene.writes):
        if age < scene.age and number + 1 not in ended:
            return number + 1
    return None


def stamps_held(scene, keeper):
    """The stamps, but for 0, whose pieces the keeper has."""
    return tuple([number + 1 for number, row in enumerate(scene.held) if keeper in row])


def brought(scene, lot):
    """The stamp that a read of this lot brings."""
    return greatest_back(scene.store.shelf, scene.held, lot)


def safe_stamp(scene):
    """The greatest stamp that all reading lots bring back, 0 for none."""
    return greatest_safe(scene.store, scene.held)


def stamps_made(scene, keeper, helpers):
    """The stamps that the keeper has not, and can make anew from those of the helpers who have them."""
    shelf = scene.store.shelf
    rows = [row if keeper not in row and makes(shelf, keeper, common(helpers, row)) else None for row in scene.held]
    return tuple([number + 1 for number, row in enumerate(rows) if row is not None])
