"""Section 29: keepers that let go of stamps."""

import itertools
import random
import unittest

from helper import Checks, all_lots, deep, junk, near
from lotkeepers.errors import BadHolding, NoLot, Unsafe
from lotkeepers.forgetting import brought_by, let_go, safe_below
from lotkeepers.maybe import may_bring, surely_brings
from lotkeepers.runs import Run
from lotkeepers.stores import store_of
from test_bringing import NEVER
from test_freest import crossing
from test_maybe import drawn_states
from test_runs import ALIKE, ASKED, CROSSED, NO_NUMBERS, STORES, back, drawn_runs
from test_shelves import SHELF
from test_sound import drawn_stores

HOLDING = (("a", "b", "c"), ("b", "c"), ("b",))
NO_HOLDINGS = [
    (), [], None, True, 0, "", "abc", {}, list(HOLDING), HOLDING[0], (list(HOLDING[0]),), (HOLDING,), ((),) * 7, (("a",),) * 7,
    (("b", "a"),), (("a", "a"),), (("z",),), (("a",), ("b", "z")), (("a",), None), (("a",), 1), (("a",), "b"), (("a",), ["b"]),
    ((("a",),),), (1,), (True,), (None,), ((1,),), ((True,),), ({},), ("a", "b"), (("c", "b"), ("a",)), (("a",), ("c", "a")),
    deep(30), (deep(30),), (ASKED,), ((ASKED,),), ASKED, (("a", ("b",)),), (("a", ""),),
]


def is_holding(store, value):
    if type(value) is not tuple or len(value) not in range(1, 7):
        return False
    return all(type(lot) is tuple and lot in all_lots(store.shelf.circle.names) for lot in value)


def bring(store, lot, held):
    """All stamps that a reading lot brings back, by the records."""
    return [stamp for stamp, row in enumerate(held, start=1) if back(store.shelf.text, crossing(lot, row))]


def right_safe(store, held):
    """The greatest stamp that all reading lots bring back."""
    stamps = range(1, len(held) + 1)
    return max([0] + [stamp for stamp in stamps if all(stamp in bring(store, lot, held) for lot in store.asks)])


def drawn_holdings(many, seed=29):
    draw = random.Random(seed)
    stores = STORES + list(drawn_stores(20)) + [store_of(NEVER[0], (("a",),), (("b",),))]
    for _ in range(many):
        store = draw.choice(stores)
        every = all_lots(store.shelf.circle.names)
        wide = every[len(every) // 3:]
        yield store, tuple(draw.choice(draw.choice((every, wide))) for _ in range(draw.randint(1, 6)))


class TestHoldings(Checks, unittest.TestCase):
    def check_holding(self, store, holding):
        safe = right_safe(store, holding)
        self.check_same(safe_below(store=store, holding=holding), safe)
        for ask, lot in enumerate(store.asks):
            self.check_same(brought_by(store=store, holding=holding, ask=ask), max([0] + bring(store, lot, holding)))
        for stamp in range(safe + 1):
            right = tuple(() if place < stamp else lot for place, lot in enumerate(holding, start=1))
            self.check_same(let_go(store=store, holding=holding, stamp=stamp), right)
        for stamp in [safe + 1, safe + 2, 7, -1, True, False, None, "1", "", (1,), [1], {}, 999999999, deep(30)]:
            self.check_keeps(Unsafe, stamp, let_go, store, holding, stamp)

    def test_all_of_small_stores(self):
        for store in (ASKED, CROSSED, store_of(SHELF, (("a", "b"),), (("a", "b", "d"),))):
            for holding in itertools.product(all_lots(store.shelf.circle.names)[::2], repeat=2):
                self.check_holding(store, holding)

    def test_drawn_ones(self):
        safe = [0] * 7
        for store, holding in drawn_holdings(600):
            self.check_holding(store, holding)
            safe[right_safe(store, holding)] += 1
        self.assertTrue(all(many > 5 for many in safe), safe)

    def test_ends(self):
        self.check_same(safe_below(ASKED, ((),)), 0)
        self.check_same(let_go(ASKED, ((),), 0), ((),))
        self.check_same(safe_below(ASKED, (("a", "b", "c"),) * 6), 6)
        self.check_same(let_go(ASKED, (("a", "b", "c"),) * 6, 6), ((),) * 5 + (("a", "b", "c"),))
        # Each reading lot brings something back, but there is no stamp that both do.
        two = store_of(SHELF, (("a",),), (("a", "b"), ("c", "d")))
        self.check_same(safe_below(two, (("a", "b"), ("c", "d"))), 0)
        self.check_same((brought_by(two, (("a", "b"), ("c", "d")), 0), brought_by(two, (("a", "b"), ("c", "d")), 1)), (1, 2))
        # Who is in no reading lot may hold as well; so may whoever is in no writing lot.
        self.check_same(safe_below(two, (("a", "b", "d"), ("a", "b", "c", "d"))), 2)
        # A later stamp that some bring back is no reason to keep less.
        self.check_same(safe_below(two, (("a", "b", "c", "d"), ("a", "b"))), 1)

    def test_what_is_no_holding(self):
        for call in (safe_below, lambda store, holding: brought_by(store, holding, 0),
                     lambda store, holding: let_go(store, holding, 0)):
            self.check_refuses(BadHolding, NO_HOLDINGS, lambda value: call(ASKED, value))
            self.check_refuses(BadHolding, NO_HOLDINGS, lambda value: call(holding=value, store=ASKED))
            for value in near(HOLDING) + junk():
                if is_holding(ASKED, value):
                    self.check_holding(ASKED, value)
                else:
                    self.check_keeps(BadHolding, value, call, ASKED, value)
        self.check_refuses(BadHolding, [(("a", "c"),), (("d",),)], lambda value: safe_below(ALIKE, value))

    def test_wrong_numbers(self):
        for value in NO_NUMBERS + [3, 8]:
            self.check_keeps(NoLot, value, brought_by, ASKED, HOLDING, value)
            self.check_keeps(NoLot, value, brought_by, ask=value, store=ASKED, holding=HOLDING)

    def test_two_wrong_ones_at_once(self):
        for value in NO_HOLDINGS:
            self.check_keeps(BadHolding, value, brought_by, ASKED, value, -1)
            self.check_keeps(BadHolding, value, let_go, ASKED, value, -1)


class TestReads(Checks, unittest.TestCase):
    """No read that begins behind it brings less."""

    def test_at_the_end_of_runs(self):
        held = 0
        for store, deeds in drawn_runs(150):
            run = Run(store, deeds)
            if not run.writes or len(run.reads) == 6 or len(deeds) > 30:
                continue
            names = store.shelf.circle.names
            holding = tuple(tuple(name for name in names if stamp in run.has(name)) for stamp in range(1, len(run.writes) + 1))
            safe = safe_below(store, holding)
            held += safe > 1
            for ask, lot in enumerate(store.asks):
                read = len(run.reads)
                longer = deeds + (("read", ask, None),) + tuple(("ask", read, keeper) for keeper in lot)
                right = Run(store, longer).brought(read)
                self.assertGreaterEqual(right, safe)
                for stamp in range(safe + 1):
                    self.check_same(brought_by(store, let_go(store, holding, stamp), ask), right)
        self.assertGreater(held, 5)

    def test_while_others_get_more(self):
        held = 0
        for store, state in drawn_states(200, 29):
            if not state:
                continue
            holding = tuple(lot for _, lot in state)
            safe = safe_below(store, holding)
            held += safe > 0
            rest = let_go(store, holding, safe)
            fewer = tuple((number, lot) for (number, _), lot in zip(state, rest))
            for ask in range(len(store.asks)):
                self.check_same(may_bring(store, fewer, ask), may_bring(store, state, ask))
                self.check_same(surely_brings(store, state, ask), brought_by(store, holding, ask))
        self.assertGreater(held, 20)

    def test_one_stamp_more_may_be_needed(self):
        """What is told is the greatest stamp: whoever lets go of more leaves some reading lot with less."""
        less = 0
        for store, holding in drawn_holdings(200, 2):
            safe = safe_below(store, holding)
            if safe == len(holding):
                continue
            rest = ((),) * safe + holding[safe:]
            less += any(brought_by(store, rest, ask) < brought_by(store, holding, ask) for ask in range(len(store.asks)))
        self.assertGreater(less, 20)


if __name__ == "__main__":
    unittest.main()
