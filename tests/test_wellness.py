"""Section 39: what is well in a house."""

import unittest

from house_model import CROSSING, HouseChecks, Model, drawn_houses, house_call
from lotkeepers.forgetting import brought_by
from lotkeepers.houses import House
from lotkeepers.mending import mends
from lotkeepers.stores import Store, store_of
from lotkeepers.shelves import Shelf
from lotkeepers.wellness import audit, cure, needed, spread
from test_runs import ASKED


def right_audit(state):
    owed = max((0,) + state.ended())
    rows = [("ill", number, state.brings(lot)) for number, lot in enumerate(state.store.asks) if state.brings(lot) < owed]
    return rows[0] if rows else ("well",)


def right_cure(state):
    rows = {}
    for keeper in state.names():
        others = tuple(name for name in state.names() if name != keeper and name not in state.down)
        stamps = state.mended(keeper, others)
        if keeper not in state.down and stamps:
            rows[keeper] = stamps
    return tuple((keeper, rows[keeper]) for keeper in sorted(rows))


def right_spread(state):
    return tuple(tuple(name for name in state.names() if stamp in state.has[name]) for stamp in state.stamps())


def is_needed(state, stamp):
    now = [state.brings(lot) for lot in state.store.asks]
    for keeper in state.names():
        if stamp in state.has[keeper]:
            state.has[keeper].remove(stamp)
            behind = [state.brings(lot) for lot in state.store.asks]
            state.has[keeper].add(stamp)
            if any(late < early for early, late in zip(now, behind)):
                return True
    return False


class TestWellness(HouseChecks, unittest.TestCase):
    def check_house(self, house, model):
        state = model.state()
        self.check_same(audit(house=house), right_audit(state))
        self.check_same(cure(house=house), right_cure(state))
        self.check_same(spread(house=house), right_spread(state))
        self.check_same(needed(house=house), tuple(is_needed(state, stamp) for stamp in state.stamps()))
        self.check_seen(house, model)

    def test_behind_drawn_deeds(self):
        words, cures, needs, downs = [], 0, [], 0
        for house, model in drawn_houses(250, 42, 20):
            self.check_house(house, model)
            words.append(audit(house)[0])
            cures += bool(cure(house))
            downs += bool(cure(house)) and house.down != ()
            needs += needed(house)
        self.assertGreater(min(words.count("well"), words.count("ill"), cures, needs.count(True), needs.count(False), downs), 5)

    def test_behind_each_deed(self):
        for house, model in drawn_houses(15, 43, 25):
            other, held = House(model.first), Model(model.first)
            for deed in model.deeds:
                house_call(other, deed)
                held.do(deed)
                self.check_house(other, held)
            while held.deeds:
                self.check_undo(other, held)
                self.check_house(other, held)

    def test_nothing_was_written(self):
        house = House(ASKED)
        self.check_same((audit(house), cure(house), spread(house), needed(house)), (("well",), (), (), ()))

    def test_well_as_long_as_nothing_is_lost(self):
        for _, model in drawn_houses(120, 44, 20):
            house = House(model.first)
            for deed in model.deeds:
                if deed[0] not in ("lose", "let_go"):
                    try:
                        house_call(house, deed)
                    except ValueError:
                        # What a deed was due to may not have come without the losses.
                        continue
                    self.check_same(audit(house), ("well",))

    def test_the_first_reading_lot_that_is_ill(self):
        house = House(ASKED)
        house.put(0, "10")
        house.put(0, "01")
        house.lose("b")
        # Reading lots: a and b; a, b and c; b and c.
        self.check_same(audit(house), ("ill", 0, 0))
        house.give(1, "b")
        self.check_same(audit(house), ("ill", 0, 1))
        house.give(2, "b")
        house.lose("c")
        self.check_same(audit(house), ("ill", 2, 0))
        # What has not ended is not owed; what is brought may be later than what is owed.
        house.fall("c")
        house.put(0, "11")
        self.check_same((audit(house), house.ended), (("ill", 2, 0), (1, 2)))
        house.rise("c")
        house.give(2, "c")
        self.check_same((audit(house), house.ended), (("well",), (1, 2)))
        house.give(3, "c")
        house.lose("a")
        self.check_same((audit(house), house.ended), (("ill", 0, 0), (1, 2, 3)))

    def test_who_is_down_has_what_it_had(self):
        house = House(ASKED)
        house.put(0, "10")
        house.lose("c")
        house.fall("a")
        self.check_same(spread(house), (("a", "b"),))
        self.check_same(audit(house), ("ill", 2, 0))
        # But it helps nobody, and nobody helps it.
        self.check_same(cure(house), ())
        self.check_same(needed(house), (True,))
        house.rise("a")
        self.check_same(cure(house), (("c", (1,)), ("d", (1,))))
        house.fall("c")
        self.check_same(cure(house), (("d", (1,)),))

    def test_names_as_python_sorts_them(self):
        shelf = Shelf("parts x\nkeeper zz x\nkeeper b x\nkeeper ab x\nkeeper a x")
        house = House(store_of(shelf, (("zz",),), (("zz", "b"),)))
        house.put(0, "1")
        house.put(0, "0")
        self.check_same(cure(house), (("a", (1, 2)), ("ab", (1, 2)), ("b", (1, 2))))
        house.lose("zz")
        self.check_same((cure(house), audit(house), spread(house), needed(house)),
                        ((), ("ill", 0, 0), ((), ()), (False, False)))

    def test_needed_is_by_what_lots_bring_now(self):
        shelf = Shelf("parts x\nkeeper a x\nkeeper b x\nkeeper c x")
        house = House(store_of(shelf, (("a", "b"),), (("a",), ("a", "b"))))
        house.put(0, "1")
        self.check_same(needed(house), (True,))
        house.put(0, "1")
        # The elder stamp is what nobody brings any more.
        self.check_same(needed(house), (False, True))
        house.lose("a")
        self.check_same((audit(house), needed(house)), (("ill", 0, 0), (False, True)))
        house.mend("a", ("b",))
        house.lose("b")
        self.check_same(needed(house), (False, True))

    def test_as_holders_tell(self):
        """Sections 29 and 30, of what is spread."""
        for house, model in drawn_houses(120, 45, 14):
            holding = spread(house)
            if not 1 <= len(holding) <= 6:
                continue
            for number, lot in enumerate(house.store.asks):
                if not set(lot) & set(house.down):
                    self.check_same(house.read(number, None), brought_by(house.store, holding, number))
            for keeper, stamps in cure(house):
                for stamp in stamps:
                    helpers = tuple(name for name in holding[stamp - 1] if name not in house.down)
                    self.assertEqual(mends(house.store.shelf, keeper, helpers)[0], "mended")

    def test_cures_are_what_mendings_bring(self):
        for house, model in drawn_houses(120, 46, 14):
            told = dict(cure(house))
            up = tuple(name for name in house.store.shelf.circle.names if name not in house.down)
            for keeper in up:
                helpers = tuple(name for name in up if name != keeper)
                self.check_same(house.copy().mend(keeper, helpers), told.get(keeper, ()))

    def test_equal_houses(self):
        one, other = House(CROSSING), House(Store(CROSSING.text))
        for house in (one, other):
            house.put(1, "11")
            house.lose("a")
        for call in (audit, cure, spread, needed):
            self.check_same(call(one), call(other))


if __name__ == "__main__":
    unittest.main()
