"""Section 25: what a read may bring."""

import itertools
import random
import unittest

from helper import Checks, all_lots, deep, junk, near
from lotkeepers.errors import BadState, NoLot
from lotkeepers.maybe import may_bring, surely_brings
from lotkeepers.runs import Run
from lotkeepers.shelves import Shelf
from lotkeepers.stores import store_of
from test_bringing import is_back
from test_freest import crossing
from test_runs import ALIKE, ASKED, CROSSED, FOUR, NO_NUMBERS
from test_sound import drawn_stores

STATE = ((0, ("a",)), (0, ("a", "b")), (0, ()))
NO_STATES = [
    [], None, True, 0, "", "a", {}, list(STATE), STATE[0], (list(STATE[0]),), (STATE,), ((0,),), ((0, ("a",), 1),),
    ((1, ("a",)),), ((-1, ("a",)),),
    ((True, ("a",)),), ((False, ("a",)),), (("0", ("a",)),), ((None, ()),), ((0, ["a"]),), ((0, "a"),), ((0, None),),
    ((0, ("b", "a")),), ((0, ("a", "a")),),
    ((0, ("z",)),), ((0, ("d",)),), ((0, ("a", "d")),), ((0, ("a", "b", "c", "d")),), ((0, (("a",),)),), ((0, ("a",)), None),
    ((0, ("a",)), [0, ()]),
    ((0, ()),) * 7, ((0, ()),) * 6 + (None,), ((("a",), 0),), deep(30), (deep(30),), ((0, deep(30)),), (ASKED,), ((0, ASKED),),
    ((),), ("0a",),
]


def is_state(store, value):
    if type(value) is not tuple or len(value) > 6:
        return False
    for row in value:
        if type(row) is not tuple or len(row) != 2 or type(row[0]) is not int or row[0] not in range(len(store.writes)):
            return False
        if type(row[1]) is not tuple or row[1] not in all_lots(store.writes[row[0]]):
            return False
    return True


def all_states(store, many):
    rows = [(number, lot) for number, write in enumerate(store.writes) for lot in all_lots(write)]
    return itertools.product(rows, repeat=many)


def all_brought(store, state, ask):
    """What the read brings in all runs that go on from the state, gone through deed by deed.

    Where a run stands is told by who has got which stamp, whom the read asked, and who told it of which stamp.
    """
    lot = store.asks[ask]
    cells = [(stamp, name) for stamp, (number, _) in enumerate(state, start=1) for name in store.writes[number]]
    first = (frozenset((stamp, name) for stamp, (_, got) in enumerate(state, start=1) for name in got), frozenset(),
             frozenset())
    known, row, brought = {first}, [first], set()
    while row:
        got, asked, told = row.pop()
        if len(asked) == len(lot):
            brought.add(max([0] + [stamp for stamp in range(1, len(state) + 1)
                                   if is_back(store.shelf, tuple(name for other, name in sorted(told) if other == stamp))]))
            continue
        behind = [(got | {cell}, asked, told) for cell in cells if cell not in got]
        behind += [(got, asked | {name}, told | {cell for cell in got if cell[1] == name}) for name in lot if name not in asked]
        for place in behind:
            if place not in known:
                known.add(place)
                row.append(place)
    return tuple(sorted(brought))


def right_ones(store, state, ask):
    """By the words of the section in brackets."""
    lot = store.asks[ask]
    sure = [stamp for stamp, (_, got) in enumerate(state, start=1) if is_back(store.shelf, crossing(got, lot))]
    may = [stamp for stamp, (number, _) in enumerate(state, start=1)
           if is_back(store.shelf, crossing(store.writes[number], lot)) and not [other for other in sure if other > stamp]]
    return tuple(([] if sure else [0]) + may)


def drawn_states(many, seed):
    draw = random.Random(seed)
    stores = [ASKED, CROSSED, ALIKE, FOUR] * 3 + list(drawn_stores(40))
    for _ in range(many):
        store = draw.choice(stores)
        state = []
        for _ in range(draw.randint(0, 6)):
            number = draw.randrange(len(store.writes))
            lot = store.writes[number]
            state.append((number, tuple(name for name in lot if draw.random() < 0.5)))
        yield store, tuple(state)


class TestMayBring(Checks, unittest.TestCase):
    def check_state(self, store, state, right, ask):
        self.check_same(may_bring(store=store, state=state, ask=ask), right)
        self.check_same(surely_brings(store=store, state=state, ask=ask), min(right))

    def test_against_all_runs(self):
        pair = Shelf("parts x\nkeeper a x\nkeeper b x")
        cut = Shelf("parts x y\nkeeper c x\nkeeper a y\nkeeper b x+y")
        some = [(store_of(pair, (("a",), ("a", "b")), (("a",), ("a", "b"), ("b",))), (0, 1, 2, 3)),
                (store_of(cut, (("c", "a"), ("c", "a", "b")), (("c", "a"), ("c", "b"), ("c", "a", "b"))), (1, 2)),
                (store_of(Shelf("parts x y\nkeeper a x y\nkeeper b x+y x"), (("a", "b"),), (("b",), ("a", "b"))), (1, 2, 3))]
        seen = set()
        for store, counts in some:
            for many in counts:
                for state in itertools.islice(all_states(store, many), 0, None, 1 if many < 2 else 3 if many == 2 else 5):
                    for ask in range(len(store.asks)):
                        right = all_brought(store, state, ask)
                        seen.add(right)
                        self.assertEqual(right, right_ones(store, state, ask))
                        self.check_state(store, state, right, ask)
        self.assertGreater(len(seen), 8)

    def test_drawn_states(self):
        for store, state in drawn_states(500, 50):
            self.assertTrue(is_state(store, state))
            for ask in range(len(store.asks)):
                self.check_state(store, state, right_ones(store, state, ask), ask)

    def test_drawn_runs_that_go_on_from_a_state(self):
        draw = random.Random(51)
        for store, state in drawn_states(150, 52):
            state = state[:3]
            begun = tuple(("write", number, "1" * len(store.shelf.parts)) for number, _ in state)
            begun += tuple(("give", stamp, name) for stamp, (_, lot) in enumerate(state, start=1) for name in lot)
            ask = draw.randrange(len(store.asks))
            may = may_bring(store, state, ask)
            for _ in range(12):
                cells = [("give", stamp, name) for stamp, (number, lot) in enumerate(state, start=1)
                         for name in store.writes[number] if name not in lot]
                behind = draw.sample(cells, draw.randint(0, len(cells))) + [("ask", 0, name) for name in store.asks[ask]]
                draw.shuffle(behind)
                deeds = begun + (("read", ask, None),) + tuple(behind)
                if len(deeds) <= 40:
                    self.assertIn(Run(store, deeds).brought(0), may)

    def test_ends(self):
        for store in (ASKED, CROSSED, ALIKE, FOUR):
            for ask in range(len(store.asks)):
                self.check_state(store, (), (0,), ask)
        self.check_state(ASKED, ((0, ("a", "b", "c")),) * 6, (6,), 0)
        self.check_state(ASKED, ((0, ()),) * 6, (0, 1, 2, 3, 4, 5, 6), 2)
        self.check_state(ASKED, ((0, ("a", "b")), (0, ("c",)), (0, ("a", "b", "c")), (0, ())), (3, 4), 0)
        # Those of the writing lot that are not asked tell nothing; nobody tells of what never comes to enough of them.
        self.check_state(CROSSED, ((0, ("a", "b")), (1, ("c", "d"))), (0,), 0)
        self.check_state(CROSSED, ((1, ("c",)), (0, ("a", "b")), (2, ())), (0, 1, 3), 1)

    def test_wrong_states(self):
        self.assertFalse([value for value in NO_STATES if is_state(ASKED, value)])
        for call in (may_bring, surely_brings):
            self.check_refuses(BadState, NO_STATES, lambda value: call(ASKED, value, 0))
            self.check_refuses(BadState, NO_STATES, lambda value: call(ask=0, state=value, store=ASKED))
            for ask in NO_NUMBERS:
                self.check_refuses(BadState, NO_STATES[::5], lambda value: call(ASKED, value, ask))

    def test_near_states(self):
        for store, state in [(ASKED, STATE), (CROSSED, ((1, ("c", "d")), (0, ()), (2, ("d",)))), (ASKED, ())]:
            for value in near(state) + junk():
                if is_state(store, value):
                    self.check_same(may_bring(store, value, 0), right_ones(store, value, 0))
                else:
                    self.check_keeps(BadState, value, may_bring, store, value, 0)
                    self.check_keeps(BadState, value, surely_brings, store, value, None)

    def test_wrong_lots(self):
        for call in (may_bring, surely_brings):
            self.check_refuses(NoLot, NO_NUMBERS + [3, 8], lambda value: call(ASKED, STATE, value))
            self.check_refuses(NoLot, NO_NUMBERS + [3, 8], lambda value: call(ask=value, store=ASKED, state=()))


if __name__ == "__main__":
    unittest.main()
