"""A model of houses that goes by the words of section 38 alone, and checks of a house beside it."""

import functools
import random

from helper import Checks, alike, deep
from lotkeepers import errors
from lotkeepers.errors import NothingToRedo, NothingToUndo
from lotkeepers.houses import House
from lotkeepers.leading import shows_across
from lotkeepers.shelves import Shelf
from lotkeepers.sound import shows_sound
from lotkeepers.stores import Store, store_of
from test_leading import SECOND, drawn_store, is_across
from test_lies import SIX_KEEP, TWO_EACH
from test_mending import first_lost
from test_runs import ASKED, back
from test_shelves import SHELF, SHELVES
from test_sound import FEW, SMALL, drawn_stores, is_sound
from test_stores import STORE

CROSSING = store_of(SHELF, (("a", "b", "c"), ("a", "b", "c", "d")), (("a", "b"), ("b", "c"), ("a", "c", "d"), ("a", "b", "c")))
SPREAD = store_of(SIX_KEEP, (("f", "e", "d", "c"), ("e", "c", "b", "a")),
                  (("f", "e", "d"), ("d", "c", "b"), ("f", "b", "a"), ("e",)))
SIX_PARTS = store_of(SHELVES[3], (("f", "e", "d", "c"), SHELVES[3].circle.names),
                     (("f", "e", "d", "c"), ("f", "e", "d", "c", "a")))
SOUND = [ASKED, SMALL, FEW, SECOND, SIX_PARTS, store_of(TWO_EACH, (("c", "a"), ("a", "b")), (("c", "b"), ("c", "a", "b")))]
NO_STAMPS = [0, -1, None, True, False, "1", "", (), (1,), [1], {}, deep(30), 999999999, "a", SHELF]
NO_BACKS = [-1, 8, True, False, "0", "", (), (0,), [0], {}, ("a",), deep(30), 999999999]
WORDS = ("put", "give", "fall", "rise", "lose", "mend", "read", "let_go", "lead")


class State:
    """How a house stands, as sets."""

    def __init__(self, store):
        self.store = store
        self.age = 0
        self.writes = []
        self.has = {keeper: set() for keeper in store.shelf.circle.names}
        self.ever = {keeper: set() for keeper in store.shelf.circle.names}
        self.down = set()

    def names(self):
        return self.store.shelf.circle.names

    def stamps(self):
        return range(1, len(self.writes) + 1)

    def get(self, keeper, stamp):
        if stamp > 0:
            self.has[keeper].add(stamp)
            self.ever[keeper].add(stamp)

    def ended(self):
        return tuple(stamp for stamp in self.stamps() if all(stamp in self.ever[keeper]
                                                             for keeper in self.writes[stamp - 1][1]))

    def back(self, lot):
        """All stamps that a lot brings back by those who have them."""
        text = self.store.shelf.text
        return [stamp for stamp in self.stamps() if back(text, tuple(name for name in lot if stamp in self.has[name]))]

    def brings(self, lot):
        return max([0] + self.back(lot))

    def safe(self):
        return max([0] + [stamp for stamp in self.stamps() if all(stamp in self.back(lot) for lot in self.store.asks)])

    def mended(self, keeper, helpers):
        """The stamps that the keeper gets from these."""
        held = [stamp for stamp in self.stamps() if stamp not in self.has[keeper]]
        rows = [tuple(name for name in helpers if stamp in self.has[name]) for stamp in held]
        return tuple(stamp for stamp, lot in zip(held, rows) if can_make(self.store.shelf.text, keeper, lot))

    def older(self):
        held = [stamp for stamp in self.stamps() if self.writes[stamp - 1][2] < self.age and stamp not in self.ended()]
        return held[0] if held else None

    def fallen(self, *some):
        """The lot of those of these who are down."""
        return tuple(name for name in self.names() if name in self.down and any(name in lot for lot in some))


@functools.lru_cache(None)
def can_make(text, keeper, helpers):
    return first_lost(Shelf(text), keeper, helpers) is None


def is_number(value, some):
    return type(value) is int and value in range(len(some))


def is_lot(names, value):
    return type(value) is tuple and all(type(name) is str for name in value) and value == tuple(name for name in names
                                                                                                if name in value)


def first_error(state, word, *some):
    """The name of the error that is due first, and its value; None if the deed can be done."""
    rows = ERRORS[word](state, *some)
    return next(((name, value) for name, value, is_due in rows if is_due()), None)


def put_errors(state, number, record):
    bits = "".join(record) if type(record) is str else None
    yield "NoLot", number, lambda: not is_number(number, state.store.writes)
    yield "BadRecord", record, lambda: bits is None or len(bits) != len(state.store.shelf.parts) or not set(bits) <= {"0", "1"}
    yield "Full", 20, lambda: len(state.writes) == 20


def is_stamp(state, value):
    return type(value) is int and value in state.stamps()


def is_keeper(state, value):
    return type(value) is str and value in state.names()


def give_errors(state, stamp, keeper):
    yield "NoStamp", stamp, lambda: not is_stamp(state, stamp)
    yield "NoKeeper", keeper, lambda: not is_keeper(state, keeper)
    yield "NotOf", keeper, lambda: keeper not in state.writes[stamp - 1][1] or stamp in state.has[keeper]
    yield "Down", (keeper,), lambda: keeper in state.down


def fall_errors(state, keeper):
    yield "NoKeeper", keeper, lambda: not is_keeper(state, keeper)
    yield "Down", (keeper,), lambda: keeper in state.down


def rise_errors(state, keeper):
    yield "NoKeeper", keeper, lambda: not is_keeper(state, keeper)
    yield "IsUp", keeper, lambda: keeper not in state.down


def mend_errors(state, keeper, helpers):
    yield "NoKeeper", keeper, lambda: not is_keeper(state, keeper)
    yield "BadHelpers", helpers, lambda: not is_lot(state.names(), helpers) or keeper in helpers
    fallen = state.fallen((keeper,), helpers) if is_lot(state.names(), helpers) and is_keeper(state, keeper) else ()
    yield "Down", fallen, lambda: bool(fallen)


def read_errors(state, number, last):
    yield "NoLot", number, lambda: not is_number(number, state.store.asks)
    yield "NoLot", last, lambda: last is not None and not is_number(last, state.store.writes)
    fine = is_number(number, state.store.asks) and (last is None or is_number(last, state.store.writes))
    fallen = state.fallen(state.store.asks[number], () if last is None else state.store.writes[last]) if fine else ()
    yield "Down", fallen, lambda: bool(fallen)


def let_go_errors(state, stamp):
    yield "NoStamp", stamp, lambda: not is_stamp(state, stamp)
    yield "Unsafe", state.safe(), lambda: stamp > state.safe()


def lead_errors(state, other, ask, number):
    yield "OtherShelf", other, lambda: not isinstance(other, Store) or other.shelf.text != state.store.shelf.text
    yield "Unsound", lambda value: value[0] == "misses" and shows_sound(other, value), lambda: not is_sound(other)
    yield "Misses", lambda value: value[0] == "misses" and shows_across(state.store, other, value), \
        lambda: not is_across(state.store, other)
    yield "Older", state.older(), lambda: state.older() is not None
    yield "NoLot", ask, lambda: not is_number(ask, state.store.asks)
    yield "NoLot", number, lambda: not is_number(number, other.writes)
    fine = isinstance(other, Store) and is_number(ask, state.store.asks) and is_number(number, other.writes)
    fallen = state.fallen(state.store.asks[ask], other.writes[number]) if fine else ()
    yield "Down", fallen, lambda: bool(fallen)


ERRORS = {"put": put_errors, "give": give_errors, "fall": fall_errors, "rise": rise_errors, "lose": fall_errors,
          "mend": mend_errors,
          "read": read_errors, "let_go": let_go_errors, "lead": lead_errors}


def done_on(state, word, *some):
    """Does a deed that can be done, and tells what it returns."""
    if word == "put":
        state.writes.append((some[1], state.store.writes[some[0]], state.age))
        for keeper in state.writes[-1][1]:
            if keeper not in state.down:
                state.get(keeper, len(state.writes))
        return len(state.writes)
    if word == "give":
        state.get(some[1], some[0])
    if word == "fall":
        state.down.add(some[0])
    if word == "rise":
        state.down.discard(some[0])
    if word == "lose":
        state.has[some[0]] = set()
    if word == "mend":
        stamps = state.mended(*some)
        for stamp in stamps:
            state.get(some[0], stamp)
        return stamps
    if word == "read":
        stamp = state.brings(state.store.asks[some[0]])
        for keeper in () if some[1] is None else state.store.writes[some[1]]:
            state.get(keeper, stamp)
        return stamp
    if word == "let_go":
        for keeper in state.names():
            if keeper not in state.down:
                state.has[keeper] = {stamp for stamp in state.has[keeper] if stamp >= some[0]}
    if word == "lead":
        stamp = state.brings(state.store.asks[some[1]])
        for keeper in some[0].writes[some[2]]:
            state.get(keeper, stamp)
        state.store, state.age = some[0], state.age + 1
    return None


class Model:
    """The deeds that stand, and those that were taken back; where it stands is worked out anew each time."""

    def __init__(self, store):
        self.first = store
        self.deeds = []
        self.undone = []

    def state(self):
        state = State(self.first)
        for deed in self.deeds:
            done_on(state, *deed)
        return state

    def do(self, deed):
        """Does a deed that can be done."""
        told = done_on(self.state(), *deed)
        if deed[0] != "read" or deed[2] is not None:
            self.deeds.append(deed)
            self.undone = []
        return told


def seen(house):
    """All that a house tells by itself."""
    names = house.first.shelf.circle.names
    return (house.store.text, house.first.text, house.records, house.ended, house.down, house.done, len(house),
            tuple(house.holds(keeper) for keeper in names))


def seen_in(model):
    state = model.state()
    holds = tuple((0,) + tuple(sorted(state.has[keeper])) for keeper in state.names())
    return (state.store.text, model.first.text, tuple(row[0] for row in state.writes), state.ended(),
            tuple(name for name in state.names() if name in state.down), len(model.deeds), len(state.writes), holds)


def others_for(draw, store):
    """A store to lead to: mostly one of the same shelf, perhaps the same one, perhaps none of this shelf."""
    kind = draw.random()
    if kind < 0.1:
        return draw.choice([STORE, FEW, None, store.text])
    if kind < 0.4:
        return store
    few = [drawn_store(draw, store.shelf) for _ in range(6)]
    right = [other for other in few if is_sound(other) and is_across(store, other)]
    return draw.choice((right or few) if draw.random() < 0.8 else few + [store])


def drawn_deed(draw, state, wrong=0.1):
    """Any deed, some of whose arguments may be wrong."""
    store, names = state.store, state.names()
    word = draw.choices(WORDS, (4, 3, 3, 3, 1, 2, 3, 1, 2))[0]

    def number(some):
        return draw.randrange(-1, len(some) + 1) if draw.random() < wrong else draw.randrange(len(some))

    def stamp():
        many = len(state.writes)
        return draw.randint(0, many + 1) if draw.random() < wrong or not many else draw.randint(max(1, many - 2), many)

    keeper = "z" if draw.random() < wrong / 3 else draw.choice(names)
    if word == "put":
        many = len(store.shelf.parts) + (draw.random() < wrong / 3)
        return word, number(store.writes), "".join(draw.choice("01") for _ in range(many))
    if word == "give":
        due = [(held, name) for held in state.stamps() for name in state.writes[held - 1][1] if held not in state.has[name]]
        return (word,) + draw.choice(due) if due and draw.random() > 3 * wrong else (word, stamp(), keeper)
    if word in ("fall", "rise", "lose"):
        return word, draw.choice(sorted(state.down)) if word == "rise" and state.down and draw.random() > wrong else keeper
    if word == "mend":
        pool = [name for name in names if name != keeper or draw.random() < wrong]
        helpers = tuple(name for name in pool if draw.random() < 0.7)
        return word, keeper, helpers[::-1] if draw.random() < wrong else helpers
    if word == "read":
        return word, number(store.asks), draw.choice((None, number(store.writes)))
    if word == "let_go":
        return word, state.safe() if state.safe() and draw.random() < 0.7 else stamp()
    other = others_for(draw, store)
    return word, other, number(store.asks), number(other.writes if isinstance(other, Store) else store.writes)


def house_call(house, deed):
    return getattr(house, deed[0])(*deed[1:])


class HouseChecks(Checks):
    """Checks of a house beside its model."""

    def check_error(self, caught, name, value):
        self.assertIs(type(caught), getattr(errors, name))
        if callable(value):
            self.assertTrue(value(caught.value), (name, caught.value))
        else:
            self.assertTrue(caught.value is value or alike(caught.value, value), (name, caught.value, value))

    def check_deed(self, house, model, deed):
        """Whether a deed does, or is refused, as the model has it; True if it was done."""
        due = first_error(model.state(), *deed)
        if due is None:
            self.check_same(house_call(house, deed), model.do(deed))
            return True
        with self.assertRaises(errors.LotError, msg=repr(deed)) as caught:
            house_call(house, deed)
        self.check_error(caught.exception, *due)
        return False

    def check_seen(self, house, model):
        self.check_same(seen(house), seen_in(model))

    def check_undo(self, house, model):
        if not model.deeds:
            self.check_raises(NothingToUndo, None, house.undo)
        else:
            self.assertIsNone(house.undo())
            model.undone.append(model.deeds.pop())

    def check_redo(self, house, model):
        if not model.undone:
            self.check_raises(NothingToRedo, None, house.redo)
        else:
            self.assertIsNone(house.redo())
            model.deeds.append(model.undone.pop())


def sound_stores(many):
    return SOUND + [CROSSING] * 4 + [SPREAD] * 2 + [store for store in drawn_stores(many) if is_sound(store)]


def drawn_houses(many, seed, length=25):
    """Houses behind drawn deeds, each with its model."""
    draw = random.Random(seed)
    stores = sound_stores(40)
    for _ in range(many):
        store = draw.choice(stores)
        house, model = House(store), Model(store)
        for _ in range(draw.randint(0, length)):
            deed = drawn_deed(draw, model.state(), 0)
            if first_error(model.state(), *deed) is None:
                house_call(house, deed)
                model.do(deed)
        yield house, model
