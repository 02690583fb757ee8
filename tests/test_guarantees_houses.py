"""Section 3, of sections 29 to 41: other names and sequences, other sums, more of something, what leaves nothing."""

import random
import unittest

from helper import all_lots
from house_model import drawn_houses, house_call, seen, sound_stores
from lotkeepers.errors import Emptied, LotError, NoHelp, NoPlan, TooFew, TooMany, Unsound
from lotkeepers.fetching import cheapest_fetched, fewest_fetched
from lotkeepers.forgetting import brought_by, let_go, safe_below
from lotkeepers.houses import House
from lotkeepers.joint import by_joint, joint
from lotkeepers.journals import journal, read_journal
from lotkeepers.leading import across, copied, led
from lotkeepers.mending import helping, mends
from lotkeepers.moving import still, without_keeper
from lotkeepers.passages import passage
from lotkeepers.plans import cheapest_plan, plan
from lotkeepers.repaired import after, most_lost, risk
from lotkeepers.shelves import Shelf
from lotkeepers.stores import Store, store_of
from lotkeepers.wellness import audit, cure, needed, spread
from test_bringing import NEVER, small_shelves
from test_costs import without
from test_fetching import drawn_prices
from test_forgetting import drawn_holdings
from test_guarantees import as_renamed, renamed_shelf
from test_guarantees_runs import lot_of, name_of, old_record, other_store, other_sums, renamed_store
from test_joint import drawn_pairs
from test_leading import drawn_ways
from test_lies import FIVE, TWO_EACH
from test_mending import all_helpers
from test_passages import drawn_cases
from test_shelves import SHELVES, all_records

SOME = SHELVES[:3] + NEVER + [FIVE, TWO_EACH] + list(small_shelves())[::4]
RAISED = (Emptied, NoHelp, NoPlan, TooFew, TooMany, Unsound)


def outcome(call, *some):
    """What a call returns, or the name of the error that it raises, and what it keeps but for records."""
    try:
        return call(*some)
    except RAISED as caught:
        return type(caught).__name__, None if isinstance(caught, Unsound) else caught.value


def renamed_outcome(told):
    """Of errors that keep a lot: as it is called in the renamed shelf."""
    if told[0] in ("NoPlan", "Emptied"):
        return told[0], lot_of(told[1])
    return told


def never_mended(shelf, lost):
    """The lot of all that can be mended, None if there is a plan."""
    told = plan(shelf, lost)
    return told[1] if told[0] == "never" else None


def renamed_deed(deed):
    word, *some = deed
    if word == "put":
        return word, some[0], some[1][::-1]
    if word == "lead":
        return (word, renamed_store(some[0])) + tuple(some[1:])
    if word == "give":
        return word, some[0], name_of(some[1])
    if word == "mend":
        return word, name_of(some[0]), lot_of(some[1])
    return deed if word in ("read", "let_go") else (word, name_of(some[0]))


def told_of(house):
    """All that is told of a house by numbers alone."""
    return (house.ended, house.done, len(house), audit(house), needed(house), tuple(
        house.copy().read(number, None) if not set(lot) & set(house.down) else "down" for number,
        lot in enumerate(house.store.asks)))


class TestNames(unittest.TestCase):
    def test_holders(self):
        for store, holding in drawn_holdings(200, 33):
            other, turned = renamed_store(store), tuple(map(lot_of, holding))
            safe = safe_below(store, holding)
            self.assertEqual(safe_below(other, turned), safe)
            self.assertEqual(let_go(other, turned, safe), tuple(map(lot_of, let_go(store, holding, safe))))
            for ask in range(len(store.asks)):
                self.assertEqual(brought_by(other, turned, ask), brought_by(store, holding, ask))
            # Reading lots in another sequence are told by the same names.
            other = store_of(store.shelf, store.writes, store.asks[::-1])
            self.assertEqual(safe_below(other, holding), safe)

    def test_pieces_made_anew(self):
        draw = random.Random(33)
        for shelf in SOME:
            other = renamed_shelf(shelf)
            prices = drawn_prices(draw, shelf)
            for keeper in shelf.circle.names:
                least = outcome(helping, shelf, keeper)
                right = least if least[0] == "NoHelp" else as_renamed(shelf, least)
                self.assertEqual(outcome(helping, other, name_of(keeper)), right)
                one = outcome(cheapest_fetched, shelf, keeper, prices)
                self.assertEqual(outcome(cheapest_fetched, other, name_of(keeper), prices[::-1])[0], one[0])
                for helpers in all_helpers(shelf, keeper):
                    self.assertEqual(mends(other, name_of(keeper), lot_of(helpers))[0], mends(shelf, keeper, helpers)[0])
                    one = outcome(fewest_fetched, shelf, keeper, helpers)
                    self.assertEqual(outcome(fewest_fetched, other, name_of(keeper), lot_of(helpers))[0], one[0])
            for lost in all_lots(shelf.circle.names):
                mended = never_mended(shelf, lost)
                self.assertEqual(never_mended(other, lot_of(lost)), None if mended is None else lot_of(mended))
                one, two = outcome(cheapest_plan, shelf, lost, prices), outcome(cheapest_plan, other, lot_of(lost),
                                                                                prices[::-1])
                if one[0] == "NoPlan":
                    self.assertEqual(two, renamed_outcome(one))
                else:
                    self.assertEqual(two[0], one[0])

    def test_stores(self):
        for store in sound_stores(60):
            other = renamed_store(store)
            self.assertEqual(most_lost(other), most_lost(store))
            for number in range(len(store.shelf.circle) + 1):
                self.assertEqual(risk(other, number), risk(store, number))
            for lost in all_lots(store.shelf.circle.names):
                self.assertEqual(after(other, lot_of(lost)), after(store, lost))
            for keeper in store.shelf.circle.names:
                one, two = outcome(still, store, keeper), outcome(still, other, name_of(keeper))
                self.assertEqual(two[0], one[0])
                made = outcome(without_keeper, store, keeper)
                if isinstance(made, Store):
                    self.assertEqual(without_keeper(other, name_of(keeper)), renamed_store(made))
                else:
                    self.assertEqual(outcome(without_keeper, other, name_of(keeper)), renamed_outcome(made))

    def test_ways(self):
        for way in drawn_ways(150, 3):
            other = tuple(map(renamed_store, way))
            self.assertEqual((led(other)[0], copied(other)[0]), (led(way)[0], copied(way)[0]))
            self.assertEqual(led(other)[:5], led(way)[:5])
            self.assertEqual(across(other[0], other[1])[:1], across(way[0], way[1])[:1])
        for one, other in drawn_pairs(150, 3):
            made = outcome(joint, one, other)
            turned = outcome(joint, renamed_store(one), renamed_store(other))
            if isinstance(made, Store):
                for some, rows in ((made.writes, turned.writes), (made.asks, turned.asks)):
                    self.assertEqual(rows, as_renamed(one.shelf, some))
            else:
                self.assertEqual(turned, made)
            self.assertEqual(outcome(by_joint, renamed_store(one), renamed_store(other))[0], outcome(by_joint, one, other)[0])
        for one, other, steps in drawn_cases(100, 3):
            turned = tuple((renamed_store(store), price) for store, price in steps)
            self.assertEqual(passage(renamed_store(one), renamed_store(other), turned), passage(one, other, steps))

    def test_houses(self):
        for house, model in drawn_houses(100, 33, 18):
            other = House(renamed_store(model.first))
            for deed in model.deeds:
                house_call(other, renamed_deed(deed))
            self.assertEqual(told_of(other), told_of(house))
            self.assertEqual(spread(other), tuple(map(lot_of, spread(house))))
            self.assertEqual(other.down, lot_of(house.down))
            self.assertEqual(cure(other), tuple(sorted((name_of(keeper), stamps) for keeper, stamps in cure(house))))
            for keeper in model.first.shelf.circle.names:
                self.assertEqual(other.holds(name_of(keeper)), house.holds(keeper))

    def test_lots_in_another_sequence(self):
        for house, model in drawn_houses(80, 34, 14):
            if any(deed[0] == "lead" for deed in model.deeds):
                continue
            store = model.first
            writes, asks = len(store.writes) - 1, len(store.asks) - 1
            other = House(store_of(store.shelf, store.writes[::-1], store.asks[::-1]))
            for deed in model.deeds:
                if deed[0] == "put":
                    deed = ("put", writes - deed[1], deed[2])
                if deed[0] == "read":
                    deed = ("read", asks - deed[1], writes - deed[2])
                house_call(other, deed)
            self.assertEqual((other.ended, spread(other), needed(other), cure(other)),
                             (house.ended, spread(house), needed(house), cure(house)))


class TestOtherSums(unittest.TestCase):
    def test_pieces_made_anew(self):
        draw = random.Random(34)
        for shelf in SOME:
            other = other_sums(shelf)[0]
            prices = drawn_prices(draw, shelf)
            for keeper in shelf.circle.names:
                self.assertEqual(outcome(helping, other, keeper), outcome(helping, shelf, keeper))
                self.assertEqual(outcome(cheapest_fetched, other, keeper, prices)[0],
                                 outcome(cheapest_fetched, shelf, keeper, prices)[0])
                for helpers in all_helpers(shelf, keeper):
                    self.assertEqual(mends(other, keeper, helpers)[0], mends(shelf, keeper, helpers)[0])
                    self.assertEqual(outcome(fewest_fetched, other, keeper, helpers)[0],
                                     outcome(fewest_fetched, shelf, keeper, helpers)[0])
            for lost in all_lots(shelf.circle.names):
                self.assertEqual(never_mended(other, lost), never_mended(shelf, lost))
                self.assertEqual(outcome(cheapest_plan, other, lost, prices)[0], outcome(cheapest_plan, shelf, lost, prices)[0])

    def test_stores_and_ways(self):
        for store, holding in drawn_holdings(150, 35):
            other = other_store(store)
            self.assertEqual(safe_below(other, holding), safe_below(store, holding))
            for number in range(len(store.shelf.circle) + 1):
                self.assertEqual(risk(other, number), risk(store, number))
            for keeper in store.shelf.circle.names:
                self.assertEqual(outcome(still, other, keeper)[0], outcome(still, store, keeper)[0])
        for way in drawn_ways(120, 35):
            other = tuple(map(other_store, way))
            self.assertEqual((led(other)[:5], copied(other)[:5]), (led(way)[:5], copied(way)[:5]))
        for one, other, steps in drawn_cases(60, 35):
            turned = tuple((other_store(store), price) for store, price in steps)
            self.assertEqual(passage(other_store(one), other_store(other), turned), passage(one, other, steps))

    def test_houses(self):
        for house, model in drawn_houses(80, 36, 18):
            shelf, changes = other_sums(model.first.shelf)
            other = House(other_store(model.first))
            olds = {old_record(shelf, changes, record): record for record in all_records(shelf)}
            for deed in model.deeds:
                if deed[0] == "put":
                    # The record that tells the same of the other sums.
                    deed = deed[:2] + (olds[deed[2]],)
                if deed[0] == "lead":
                    deed = ("lead", other_store(deed[1])) + deed[2:]
                house_call(other, deed)
            self.assertEqual(told_of(other), told_of(house))
            self.assertEqual((spread(other), cure(other), other.down), (spread(house), cure(house), house.down))


class TestMore(unittest.TestCase):
    def test_a_helper_more(self):
        for shelf in SOME:
            for keeper in shelf.circle.names:
                for helpers in all_helpers(shelf, keeper):
                    if mends(shelf, keeper, helpers)[0] == "lost":
                        continue
                    for name in shelf.circle.rest(helpers):
                        if name != keeper:
                            wider = shelf.circle.lot(helpers + (name,))
                            self.assertEqual(mends(shelf, keeper, wider)[0], "mended")
                            self.assertLessEqual(fewest_fetched(shelf, keeper, wider)[0],
                                                 fewest_fetched(shelf, keeper, helpers)[0])

    def test_fewer_lost_keepers(self):
        for shelf in SOME:
            prices = (1,) * len(shelf.circle)
            for lost in all_lots(shelf.circle.names):
                for name in lost:
                    fewer = without(lost, name)
                    if plan(shelf, lost)[0] == "plan":
                        self.assertEqual(plan(shelf, fewer)[0], "plan")
                        self.assertLessEqual(cheapest_plan(shelf, fewer, prices)[0], cheapest_plan(shelf, lost, prices)[0])
                    else:
                        held = plan(shelf, fewer)
                        self.assertLessEqual(set(plan(shelf, lost)[1]) - {name}, set(held[1] if held[0] == "never" else lost))
        for store in sound_stores(40):
            for lost in all_lots(store.shelf.circle.names):
                for name in lost:
                    for some, more in zip(after(store, lost), after(store, without(lost, name))):
                        self.assertLessEqual(set(some), set(more))

    def test_a_holder_more(self):
        for store, holding in drawn_holdings(150, 36):
            for place in range(len(holding)):
                for name in store.shelf.circle.rest(holding[place]):
                    more = holding[:place] + (store.shelf.circle.lot(holding[place] + (name,)),) + holding[place + 1:]
                    self.assertGreaterEqual(safe_below(store, more), safe_below(store, holding))
                    for ask in range(len(store.asks)):
                        self.assertGreaterEqual(brought_by(store, more, ask), brought_by(store, holding, ask))

    def test_a_piece_more(self):
        for shelf in list(small_shelves())[:27:2]:
            for piece in ("x", "y", "x+y"):
                richer = Shelf(shelf.text + " " + piece)
                last = shelf.circle.names[-1]
                for keeper in shelf.circle.names[:-1]:
                    for helpers in all_helpers(shelf, keeper):
                        if mends(shelf, keeper, helpers)[0] == "mended":
                            self.assertEqual(mends(richer, keeper, helpers)[0], "mended")
                for lost in all_lots(shelf.circle.names):
                    if last not in lost and plan(shelf, lost)[0] == "plan":
                        self.assertEqual(plan(richer, lost)[0], "plan")

    def test_a_keeper_more_in_a_lot(self):
        for one, other in drawn_pairs(100, 36):
            if across(one, other)[0] == "misses":
                continue
            lot = other.asks[0]
            for name in other.shelf.circle.rest(lot):
                wider = other.shelf.circle.lot(lot + (name,))
                if wider not in other.asks:
                    more = store_of(other.shelf, other.writes, (wider,) + other.asks[1:])
                    self.assertEqual(across(one, more)[0], "across")


class TestLive(unittest.TestCase):
    def test_what_is_undone_leaves_nothing(self):
        """All that is told, in the text too, is as it would be had it never been done, but for redo."""
        for house, model in drawn_houses(60, 37, 14):
            rows = [House(model.first)]
            for deed in model.deeds:
                held = rows[-1].copy()
                house_call(held, deed)
                rows.append(held)
            self.assertEqual(rows[-1], house)
            for other in reversed(rows[:-1]):
                house.undo()
                self.assertEqual((seen(house), journal(house), told_of(house)), (seen(other), journal(other), told_of(other)))
                self.assertEqual((spread(house), cure(house)), (spread(other), cure(other)))

    def test_trials_that_are_not_kept_leave_nothing(self):
        draw = random.Random(37)
        for house, model in drawn_houses(60, 38, 12):
            before = (seen(house), journal(house), told_of(house), spread(house), cure(house), needed(house))
            with house.trial():
                for keeper in model.first.shelf.circle.names:
                    for call in (house.fall, house.lose, house.rise):
                        try:
                            call(keeper) if draw.random() < 0.7 else None
                        except LotError:
                            pass
            self.assertEqual((seen(house), journal(house), told_of(house), spread(house), cure(house), needed(house)), before)
            self.assertEqual(read_journal(journal(house)), house)

    def test_functions_change_no_house(self):
        for house, _ in drawn_houses(40, 39, 12):
            before = (seen(house), journal(house))
            for call in (audit, cure, spread, needed, journal):
                self.assertEqual(call(house), call(house))
            self.assertEqual((seen(house), journal(house)), before)


if __name__ == "__main__":
    unittest.main()
