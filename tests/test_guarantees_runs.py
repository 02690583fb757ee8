"""Section 3, of sections 16 to 28: other names, another sequence, other sums, and more of something."""

import random
import unittest

from helper import all_lots
from lotkeepers.allruns import misses
from lotkeepers.changing import cheapest
from lotkeepers.costs import cheapest_lots, needless, slack
from lotkeepers.errors import NeverSure, Unbelieved, Unserved, Unsound
from lotkeepers.histories import seen
from lotkeepers.honest import honest, honest_askers, most_lies
from lotkeepers.judging import early, missed, shows_missed, shows_turned, turned
from lotkeepers.liars import asked_more, liars
from lotkeepers.lies import believed, nearest, overruled, overruling
from lotkeepers.maybe import may_bring, surely_brings
from lotkeepers.runs import Run
from lotkeepers.shelves import Shelf, answer
from lotkeepers.spare import summed
from lotkeepers.stores import store_of
from lotkeepers.turning import steady, turning_run
from lotkeepers.twice import owed
from test_answers import all_answers
from test_changing import drawn_cases
from test_guarantees import as_renamed, renamed_shelf
from test_honest import wide_stores
from test_lies import BOUNDS, SMALL_ONES
from test_maybe import drawn_states
from test_runs import drawn_runs
from test_shelves import all_records, value_of
from test_sound import drawn_stores, is_sound
from test_turning import right_turns, sound_stores

RAISED = (Unsound, Unserved, NeverSure, Unbelieved)


def outcome(call, *some):
    """What a call returns, or the name of the error that it raises."""
    try:
        return call(*some)
    except RAISED as caught:
        return type(caught).__name__


def name_of(name):
    return "n" + name


def lot_of(lot):
    """A lot as it is called in a renamed shelf, whose keepers stand the other way about."""
    return tuple(name_of(name) for name in reversed(lot))


def renamed_store(store):
    """Keepers and parts have other names and stand the other way about; so do the pieces; lots stand as they did."""
    return store_of(renamed_shelf(store.shelf), tuple(map(lot_of, store.writes)), tuple(map(lot_of, store.asks)))


def renamed_deed(deed):
    word, number, last = deed
    if word == "write":
        return word, number, last[::-1]
    return deed if word == "read" else (word, number, name_of(last))


def other_sums(shelf):
    """A shelf each of whose parts is exchanged for a sum of parts, and these sums."""
    changes = tuple(tuple(shelf.parts[:place + 1]) for place in range(len(shelf.parts)))
    return summed(shelf, changes), changes


def other_store(store):
    return store_of(other_sums(store.shelf)[0], store.writes, store.asks)


def old_record(shelf, changes, record):
    """The record of the shelf as it was that tells the same as this one of its other sums."""
    return "".join(str(value_of(shelf, row, record)) for row in changes)


def by_numbers(run):
    """All that is told of a run by numbers alone."""
    brought = tuple(run.brought(read) for read in range(len(run.reads)))
    spans = tuple((row[0],) + row[2:] for row in run.writes)
    return spans, run.reads, brought, early(run), seen(run), owed(run), missed(run)[0], turned(run)[0]


class TestNames(unittest.TestCase):
    def test_costs(self):
        for store in list(drawn_stores(80)) + list(wide_stores(20)):
            other = renamed_store(store)
            prices = tuple(range(1, len(store.shelf.circle) + 1))
            self.assertEqual(needless(other), needless(store))
            self.assertEqual(cheapest_lots(other, prices[::-1]), cheapest_lots(store, prices))
            told = outcome(slack, store)
            if told != "Unsound":
                told = tuple(tuple(map(lot_of, some)) for some in told)
            self.assertEqual(outcome(slack, other), told)

    def test_changes(self):
        for store, offers, wishes in drawn_cases(80):
            other = []
            for offer in offers:
                if offer[0] == "piece":
                    other.append(("piece", name_of(offer[1]), tuple("part" + part for part in reversed(offer[2])), offer[3]))
                else:
                    other.append((offer[0], lot_of(offer[1]), offer[2]))
            made, right = cheapest(renamed_store(store), tuple(other), wishes), cheapest(store, offers, wishes)
            self.assertEqual((made[:-1], len(made[-1])), (right[:-1], len(right[-1])))

    def test_runs(self):
        for store, deeds in drawn_runs(250, 53):
            run = Run(store, deeds)
            other = Run(renamed_store(store), tuple(map(renamed_deed, deeds)))
            self.assertEqual(by_numbers(other), by_numbers(run))
            self.assertTrue(shows_missed(other, missed(run)) and shows_turned(other, turned(run)))
            for keeper in store.shelf.circle.names:
                self.assertEqual(other.has(name_of(keeper)), run.has(keeper))
            for read in range(len(run.reads)):
                for stamp in range(len(run.writes) + 1):
                    self.assertEqual(other.told(read, stamp), lot_of(run.told(read, stamp)))

    def test_lots_in_another_sequence(self):
        for store in list(drawn_stores(80)) + list(wide_stores(20)):
            other = store_of(store.shelf, store.writes[::-1], store.asks[::-1])
            self.assertEqual(misses(other)[0], misses(store)[0])
            told = outcome(slack, store)
            self.assertEqual(outcome(slack, other), told if told == "Unsound" else tuple(some[::-1] for some in told))
            self.assertEqual(steady(other)[0] if is_sound(other) else "", steady(store)[0] if is_sound(store) else "")
            rows = [tuple(len(some) - 1 - number for number in reversed(row)) for row,
                    some in zip(needless(store), (store.writes, store.asks))]
            self.assertEqual(needless(other), tuple(rows))
            for bound in BOUNDS:
                self.assertEqual(honest(other, bound)[0], honest(store, bound)[0])
                self.assertEqual(outcome(honest_askers, other, bound), outcome(honest_askers, store, bound))

    def test_all_runs(self):
        for store in sound_stores(150) + list(drawn_stores(50)):
            other = renamed_store(store)
            self.assertEqual(misses(other)[0], misses(store)[0])
            self.assertEqual(outcome(most_lies, other), outcome(most_lies, store))
            if is_sound(store):
                self.assertEqual(steady(other)[0], steady(store)[0])
            for _, write, first, second, lot in right_turns(store)[:5]:
                run = turning_run(store, write, first, second, lot)
                made = turning_run(other, write, first, second, lot_of(lot))
                self.assertEqual((made.writes[0][0], [row[0] for row in made.reads]),
                                 (run.writes[0][0], [row[0] for row in run.reads]))
            for bound in BOUNDS:
                self.assertEqual(honest(other, bound)[0], honest(store, bound)[0])
                family = outcome(honest_askers, store, bound)
                self.assertEqual(outcome(honest_askers, other, bound), family
                                 if family == "Unserved" else as_renamed(store.shelf, family))

    def test_states(self):
        for store, state in drawn_states(150, 54):
            other = renamed_store(store)
            for ask in range(len(store.asks)):
                turned_about = tuple((number, lot_of(lot)) for number, lot in state)
                self.assertEqual(may_bring(other, turned_about, ask), may_bring(store, state, ask))
                self.assertEqual(surely_brings(other, turned_about, ask), surely_brings(store, state, ask))

    def test_lies(self):
        for shelf in SMALL_ONES:
            other = renamed_shelf(shelf)
            for bound in BOUNDS:
                family = outcome(overruling, shelf, bound)
                self.assertEqual(outcome(overruling, other, bound), family
                                 if family == "NeverSure" else as_renamed(shelf, family))
                for lot in all_lots(shelf.circle.names):
                    self.assertEqual(overruled(other, lot_of(lot), bound)[0], overruled(shelf, lot, bound)[0])

    def test_answers(self):
        for shelf in SMALL_ONES[::2]:
            other = renamed_shelf(shelf)
            for lot in all_lots(shelf.circle.names)[::3]:
                for answers in all_answers(shelf, lot):
                    turned_about = tuple((name_of(name), values) for name, values in reversed(answers))
                    number, found = nearest(shelf, answers)
                    self.assertEqual(nearest(other, turned_about), (number, tuple(sorted(record[::-1] for record in found))))
                    for bound in BOUNDS:
                        right = sorted(record[::-1] for record in believed(shelf, answers, bound))
                        self.assertEqual(believed(other, turned_about, bound), tuple(right))
                        rows, more = outcome(liars, shelf, answers, bound), outcome(asked_more, shelf, answers, bound)
                        if rows != "Unbelieved":
                            rows, more = tuple(map(lot_of, rows)), tuple(map(name_of, more))
                        self.assertEqual(outcome(liars, other, turned_about, bound), rows)
                        self.assertEqual(outcome(asked_more, other, turned_about, bound), more)


class TestOtherSums(unittest.TestCase):
    def test_stores(self):
        for store in list(drawn_stores(80)) + list(wide_stores(20)) + sound_stores(60):
            other = other_store(store)
            prices = tuple(range(9, 9 - len(store.shelf.circle), -1))
            self.assertEqual(needless(other), needless(store))
            self.assertEqual(outcome(slack, other), outcome(slack, store))
            self.assertEqual(cheapest_lots(other, prices), cheapest_lots(store, prices))
            self.assertEqual(misses(other)[0], misses(store)[0])
            self.assertEqual(outcome(most_lies, other), outcome(most_lies, store))
            if is_sound(store):
                self.assertEqual(steady(other), steady(store))
            for bound in BOUNDS:
                self.assertEqual(honest(other, bound)[:3], honest(store, bound)[:3])
                self.assertEqual(outcome(honest_askers, other, bound), outcome(honest_askers, store, bound))

    def test_changes(self):
        for store, offers, wishes in drawn_cases(60):
            changes = other_sums(store.shelf)[1]
            other = []
            for offer in offers:
                if offer[0] == "piece":
                    rows = [row for part, row in zip(store.shelf.parts, changes) if part in offer[2]]
                    sums = tuple(part for part in store.shelf.parts if sum(part in row for row in rows) % 2)
                    offer = ("piece", offer[1], sums, offer[3])
                other.append(offer)
            self.assertEqual(cheapest(other_store(store), tuple(other), wishes), cheapest(store, offers, wishes))

    def test_runs(self):
        for store, deeds in drawn_runs(250, 55):
            run, other = Run(store, deeds), Run(other_store(store), deeds)
            self.assertEqual(by_numbers(other), by_numbers(run))
            self.assertEqual((missed(other), turned(other)), (missed(run), turned(run)))

    def test_states(self):
        for store, state in drawn_states(100, 56):
            for ask in range(len(store.asks)):
                self.assertEqual(may_bring(other_store(store), state, ask), may_bring(store, state, ask))

    def test_lies(self):
        for shelf in SMALL_ONES:
            other, changes = other_sums(shelf)
            olds = {record: old_record(shelf, changes, record) for record in all_records(shelf)}
            self.assertEqual(sorted(olds.values()), all_records(shelf))
            for record, old in olds.items():
                for keeper in shelf.circle.names:
                    self.assertEqual(answer(other, keeper, record), answer(shelf, keeper, old))
            for bound in BOUNDS:
                self.assertEqual(outcome(overruling, other, bound), outcome(overruling, shelf, bound))
                for lot in all_lots(shelf.circle.names):
                    self.assertEqual(overruled(other, lot, bound)[0], overruled(shelf, lot, bound)[0])
                for answers in all_answers(shelf, shelf.circle.names[:2]):
                    found = believed(other, answers, bound)
                    self.assertEqual(tuple(sorted(olds[record] for record in found)), believed(shelf, answers, bound))
                    self.assertEqual(outcome(liars, other, answers, bound), outcome(liars, shelf, answers, bound))
                    self.assertEqual(outcome(asked_more, other, answers, bound), outcome(asked_more, shelf, answers, bound))


class TestMore(unittest.TestCase):
    def richer(self, store):
        """The store with a piece more at the first keeper that has one only, None if there is none."""
        lines = store.shelf.text.split("\n")
        for number, line in enumerate(lines):
            if number and len(line.split()) == 3:
                lines[number] = line + " " + "+".join(store.shelf.parts)
                return store_of(Shelf("\n".join(lines)), store.writes, store.asks)
        return None

    def test_a_piece_more(self):
        many = 0
        for store, deeds in drawn_runs(400, 57):
            other = self.richer(store)
            if other is None or [deed for deed in deeds if deed[0] == "again"]:
                continue
            run, more = Run(store, deeds), Run(other, deeds)
            for read in range(len(run.reads)):
                if run.brought(read) is not None:
                    many += 1
                    self.assertGreaterEqual(more.brought(read), run.brought(read))
        self.assertGreater(many, 50)

    def test_a_piece_more_at_a_keeper_of_a_sound_store(self):
        for store in sound_stores(200):
            other = self.richer(store)
            if other is not None:
                self.assertEqual(misses(other), ("never",))
                self.assertGreaterEqual(most_lies(other), most_lies(store))
                for some, more in zip(slack(store), slack(other)):
                    for lot, wider in zip(some, more):
                        self.assertLessEqual(set(lot), set(wider))

    def test_a_keeper_more_in_a_lot(self):
        draw = random.Random(58)
        for store in sound_stores(200):
            ask = draw.randrange(len(store.asks))
            lot = store.asks[ask]
            for name in store.shelf.circle.names:
                wider = store.shelf.circle.lot(lot + (name,))
                if wider not in store.asks:
                    asks = store.asks[:ask] + (wider,) + store.asks[ask + 1:]
                    other = store_of(store.shelf, store.writes, asks)
                    self.assertEqual(misses(other), ("never",))
                    self.assertGreaterEqual(most_lies(other), most_lies(store))

    def test_a_keeper_more_that_has_got_it(self):
        for store, state in drawn_states(120, 59):
            for place, (number, lot) in enumerate(state):
                for name in store.writes[number]:
                    wider = store.shelf.circle.lot(lot + (name,))
                    more = state[:place] + ((number, wider),) + state[place + 1:]
                    for ask in range(len(store.asks)):
                        self.assertGreaterEqual(surely_brings(store, more, ask), surely_brings(store, state, ask))
                        self.assertLessEqual(set(may_bring(store, more, ask)), set(may_bring(store, state, ask)))

    def test_fewer_lies(self):
        for shelf in SMALL_ONES[::2]:
            for answers in all_answers(shelf, shelf.circle.names):
                rows = [believed(shelf, answers, bound) for bound in BOUNDS]
                for fewer, more in zip(rows, rows[1:]):
                    self.assertLessEqual(set(fewer), set(more))
        for store in wide_stores(40):
            held = [honest(store, bound) == ("sound",) for bound in BOUNDS]
            self.assertEqual(held, sorted(held, reverse=True))

    def test_equal_calls(self):
        for store in sound_stores(60):
            again = store_of(Shelf(store.shelf.text), store.writes, store.asks)
            self.assertEqual((steady(store), misses(store), slack(store), honest(store, 1)),
                             (steady(again), misses(again), slack(again), honest(again, 1)))


if __name__ == "__main__":
    unittest.main()
