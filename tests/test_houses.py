"""Section 38: a house at work, beside a model that goes by the section's words alone."""

import itertools
import random
import unittest

from helper import deep, inside, junk
from house_model import CROSSING, NO_BACKS, NO_STAMPS, WORDS, HouseChecks, Model
from house_model import drawn_deed, drawn_houses, first_error, house_call, seen, sound_stores
from lotkeepers import errors
from lotkeepers.errors import NoKeeper, NothingToRedo, Unsound
from lotkeepers.houses import House
from lotkeepers.sound import shows_sound
from lotkeepers.stores import Store, store_of
from test_leading import FIRST, NO_STORES, SECOND, THIRD
from test_runs import ASKED
from test_shelves import NO_KEEPERS, NO_RECORDS, SHELF
from test_sound import FEW, SMALL, drawn_stores, is_sound
from test_stores import FULL, STORE


class TestBeginning(HouseChecks, unittest.TestCase):
    def test_nothing_was_written(self):
        for store in sound_stores(60):
            house = House(store=store)
            self.check_seen(house, Model(store))
            self.assertIs(house.store, store)
            self.assertIs(house.first, store)
            self.check_same((house.records, house.ended, house.down, house.done, len(house)), ((), (), (), 0, 0))
            for keeper in store.shelf.circle.names:
                self.check_same(house.holds(keeper=keeper), (0,))
            for number in range(len(store.asks)):
                self.check_same(house.read(number=number, back=None), 0)

    def test_stores_that_are_not_sound(self):
        for store in [STORE, FULL] + [store for store in drawn_stores(40) if not is_sound(store)]:
            with self.assertRaises(Unsound) as caught:
                House(store)
            self.assertEqual(caught.exception.value[0], "misses")
            self.assertIs(shows_sound(store, caught.exception.value), True)

    def test_holds_of_no_keeper(self):
        self.check_refuses(NoKeeper, NO_KEEPERS, House(SMALL).holds)
        self.check_refuses(NoKeeper, NO_KEEPERS, lambda value: House(SMALL).holds(keeper=value))


class TestDeeds(HouseChecks, unittest.TestCase):
    def test_drawn_deeds(self):
        draw = random.Random(38)
        done = {word: [0, 0] for word in WORDS}
        for store in sound_stores(60):
            house, model = House(store), Model(store)
            for _ in range(40):
                kind = draw.random()
                if kind < 0.08:
                    self.check_undo(house, model)
                elif kind < 0.14:
                    self.check_redo(house, model)
                else:
                    deed = drawn_deed(draw, model.state())
                    done[deed[0]][self.check_deed(house, model, deed)] += 1
                self.check_seen(house, model)
        for word, (refused, others) in done.items():
            self.assertGreater(refused, 5, word)
            self.assertGreater(others, 15, word)

    def test_each_error_and_two_at_once(self):
        """All arguments of small sets, right ones and wrong ones, behind drawn deeds."""
        due = set()
        older, elder = House(ASKED), Model(ASKED)
        for deed in (("fall", "c"), ("put", 0, "10"), ("put", 0, "11"), ("rise", "c"), ("lead", ASKED, 0, 0), ("fall", "d"),
                     ("fall", "a")):
            self.assertTrue(self.check_deed(older, elder, deed))
        for house, model in [(older, elder)] + list(drawn_houses(40, 83, 16)):
            names = model.first.shelf.circle.names
            stamps = list(range(-1, len(model.state().writes) + 2)) + [True, None]
            keepers = list(names) + ["z", None]
            numbers = [-1, 0, 1, 8, True]
            records = ["0" * len(model.first.shelf.parts), "", 0]
            lots = [(), names[:1], names[1:], names[:2], names, names[::-1], list(names[:1])]
            others = [model.state().store, Store(model.first.text), STORE, FULL, SECOND, THIRD, None]
            cases = [("put",) + row for row in itertools.product(numbers, records)]
            cases += [("give",) + row for row in itertools.product(stamps, keepers)]
            cases += [(word, keeper) for word in ("fall", "rise", "lose") for keeper in keepers]
            cases += [("mend",) + row for row in itertools.product(keepers, lots)]
            cases += [("read",) + row for row in itertools.product(numbers, [None] + numbers)]
            cases += [("let_go", stamp) for stamp in stamps]
            cases += [("lead",) + row for row in itertools.product(others, numbers[:3], numbers[:3])]
            for deed in cases:
                copied = house.copy()
                held = Model(model.first)
                held.deeds = list(model.deeds)
                error = first_error(held.state(), *deed)
                due.add((deed[0], error and error[0]))
                self.check_deed(copied, held, deed)
                self.check_seen(copied, held)
            self.check_seen(house, model)
        for word, names in (("put", "NoLot BadRecord"), ("give", "NoStamp NoKeeper NotOf Down"), ("fall", "NoKeeper Down"),
                            ("rise", "NoKeeper IsUp"), ("lose", "NoKeeper Down"), ("mend", "NoKeeper BadHelpers Down"),
                            ("read", "NoLot Down"), ("let_go", "NoStamp Unsafe"),
                            ("lead", "OtherShelf Unsound Misses Older NoLot Down")):
            for name in names.split() + [None]:
                self.assertIn((word, name), due)

    def test_wrong_values_of_each_kind(self):
        house = House(CROSSING)
        house.put(0, "10")
        model = Model(CROSSING)
        model.do(("put", 0, "10"))
        cases = [("put", value, "10") for value in NO_BACKS + [None]] + [("put", 0, value) for value in NO_RECORDS]
        cases += [("give", value, "a") for value in NO_STAMPS] + [("give", 1, value) for value in NO_KEEPERS]
        cases += [(word, value) for word in ("fall", "rise", "lose") for value in NO_KEEPERS]
        cases += [("mend", value, ("b",)) for value in NO_KEEPERS]
        cases += [("mend", "a", value) for value in [("b", "a"), ("a",), ["b"], ("c", "b"), ("b", "b"), "b", None, ("z",),
                                                     True, {}, deep(30)]]
        cases += [("read", value, None) for value in NO_BACKS + [None]] + [("read", 0, value) for value in NO_BACKS]
        cases += [("let_go", value) for value in NO_STAMPS + [2]] + [("lead", value, 0, 0) for value in NO_STORES + junk()]
        cases += [("lead", CROSSING, value, 0) for value in NO_BACKS + [None]] + [("lead", CROSSING, 0,
                                                                                   value) for value in NO_BACKS + [None]]
        for deed in cases:
            self.assertFalse(self.check_deed(house, model, deed), deed)
            with self.assertRaises(errors.LotError) as caught:
                house_call(house, deed)
            self.assertTrue(any(caught.exception.value is part for part in deed[1:]), deed)
            self.check_seen(house, model)

    def test_calls_by_name(self):
        house = House(CROSSING)
        self.check_same(house.put(number=1, record="11"), 1)
        self.assertIsNone(house.fall(keeper="b"))
        self.check_same(house.put(record="01", number=1), 2)
        self.assertIsNone(house.rise(keeper="b"))
        self.assertIsNone(house.give(keeper="b", stamp=2))
        self.assertIsNone(house.lose(keeper="c"))
        self.check_same(house.mend(helpers=("b", "d"), keeper="c"), (1, 2))
        self.check_same(house.read(back=1, number=0), 2)
        self.assertIsNone(house.let_go(stamp=2))
        self.assertIsNone(house.lead(number=0, ask=0, other=CROSSING))
        self.check_same(house.done, 10)


class TestWrites(HouseChecks, unittest.TestCase):
    def test_twenty_and_one_more(self):
        house = House(ASKED)
        for number in range(20):
            self.check_same(house.put(0, format(number % 4, "02b")), number + 1)
        before = seen(house)
        self.check_raises(errors.Full, 20, house.put, 0, "00")
        self.check_raises(errors.BadRecord, "0", house.put, 0, "0")
        self.check_raises(errors.NoLot, 1, house.put, 1, "00")
        self.check_same(seen(house), before)
        self.check_same(house.records, tuple(format(number % 4, "02b") for number in range(20)))
        self.check_same(house.ended, tuple(range(1, 21)))
        # Who is taken back has not begun.
        house.undo()
        self.check_same(house.put(0, "11"), 20)
        self.check_raises(errors.Full, 20, house.put, 0, "11")
        house.lead(ASKED, 0, 0)
        self.check_raises(errors.Full, 20, house.put, 0, "11")

    def test_a_write_of_which_all_are_down(self):
        house = House(ASKED)
        for keeper in "abc":
            house.fall(keeper)
        self.check_same(house.put(0, "11"), 1)
        self.check_same((house.ended, house.holds("a"), house.records), ((), (0,), ("11",)))
        for keeper in "abc":
            house.rise(keeper)
            house.give(1, keeper)
        self.check_same(house.ended, (1,))

    def test_what_has_ended_stays_so(self):
        house = House(ASKED)
        house.put(0, "11")
        for keeper in "abcd":
            house.lose(keeper)
        self.check_same((house.ended, house.holds("a"), house.read(1, None)), ((1,), (0,), 0))
        # Each keeper of the lot had its pieces at some time, though never all of them at once.
        house.fall("b")
        house.fall("c")
        self.check_same(house.put(0, "01"), 2)
        house.lose("a")
        house.rise("b")
        house.give(2, "b")
        house.lose("b")
        self.check_same(house.ended, (1,))
        house.rise("c")
        house.give(2, "c")
        self.check_same(house.ended, (1, 2))
        house.give(2, "a")
        self.check_raises(errors.NotOf, "a", house.give, 2, "a")
        house.lose("a")
        house.give(1, "a")
        self.check_same(house.holds("a"), (0, 1))

    def test_ended_by_a_mending(self):
        house = House(ASKED)
        house.fall("c")
        house.put(0, "10")
        self.check_same(house.ended, ())
        house.rise("c")
        self.check_same(house.mend("c", ("a", "b")), (1,))
        self.check_same(house.ended, (1,))

    def test_ended_by_what_a_read_gives_again(self):
        house = House(ASKED)
        house.fall("c")
        house.put(0, "10")
        house.rise("c")
        self.check_same(house.read(2, None), 0)
        self.check_same(house.read(0, 0), 1)
        self.check_same((house.ended, house.holds("c")), ((1,), (0, 1)))

    def test_ended_by_what_a_lead_gives_again(self):
        house = House(SMALL)
        house.fall("c")
        house.put(0, "10")
        house.rise("c")
        other = store_of(SHELF, (("a", "b", "c", "d"),), (("a", "b", "d"),))
        self.assertIsNone(house.lead(other, 0, 0))
        self.check_same((house.ended, house.holds("d"), house.store, house.first), ((1,), (0, 1), other, SMALL))

    def test_stamps_of_the_lot_alone_may_be_given(self):
        house = House(SMALL)
        house.put(1, "11")
        for keeper in "abc":
            self.check_raises(errors.NotOf, keeper, house.give, 1, keeper)
        self.check_raises(errors.NotOf, "d", house.give, 1, "d")
        # Who is down and has them is refused because of having them.
        house.fall("d")
        self.check_raises(errors.NotOf, "d", house.give, 1, "d")
        self.check_raises(errors.Down, ("d",), house.fall, "d")


class TestReads(HouseChecks, unittest.TestCase):
    def test_a_read_asked_once_is_no_deed(self):
        house = House(ASKED)
        house.put(0, "10")
        house.undo()
        for number in range(3):
            self.check_same(house.read(number, None), 0)
        self.check_same(house.done, 0)
        house.redo()
        self.check_same((house.done, house.read(0, None), house.done), (1, 1, 1))

    def test_a_read_asked_twice_is_one(self):
        house = House(ASKED)
        self.check_same((house.read(0, 0), house.done), (0, 1))
        self.check_same(house.holds("a"), (0,))
        house.undo()
        self.check_same(house.done, 0)
        house.put(0, "10")
        house.undo()
        self.check_same(house.read(0, 0), 0)
        self.check_raises(NothingToRedo, None, house.redo)

    def test_down(self):
        house = House(SMALL)
        for keeper in "cb":
            house.fall(keeper)
        self.check_raises(errors.Down, ("b",), house.read, 0, None)
        self.check_raises(errors.Down, ("b", "c"), house.read, 0, 0)
        self.check_raises(errors.Down, ("b",), house.read, 0, 1)
        house.rise("b")
        self.check_same(house.read(0, 1), 0)
        self.check_raises(errors.Down, ("c",), house.read, 0, 0)

    def test_let_go_by_keepers_that_are_up(self):
        house = House(CROSSING)
        house.put(0, "10")
        house.fall("c")
        house.put(1, "11")
        house.rise("c")
        # The reading lot of b and c brings back the first one alone.
        self.check_raises(errors.Unsafe, 1, house.let_go, 2)
        self.check_same(house.read(0, 0), 2)
        house.fall("b")
        self.assertIsNone(house.let_go(2))
        self.check_same([house.holds(keeper) for keeper in "abcd"], [(0, 2), (0, 1, 2), (0, 2), (0, 2)])
        house.rise("b")
        self.assertIsNone(house.let_go(1))
        self.check_same(house.holds("b"), (0, 1, 2))
        self.assertIsNone(house.let_go(2))
        self.check_same(house.holds("b"), (0, 2))
        self.check_same(house.ended, (1, 2))


class TestLeads(HouseChecks, unittest.TestCase):
    def test_an_equal_store_stands_behind_the_elder_one(self):
        house = House(ASKED)
        house.fall("c")
        house.put(0, "10")
        house.rise("c")
        house.fall("d")
        self.assertIsNone(house.lead(Store(ASKED.text), 2, 0))
        self.check_same(house.ended, ())
        self.check_raises(errors.Older, 1, house.lead, ASKED, 0, 0)
        self.check_raises(errors.Older, 1, house.lead, ASKED, 9, 9)
        # A write that began in the store that stands is no hindrance.
        house.give(1, "c")
        house.fall("c")
        house.put(0, "01")
        house.rise("c")
        self.check_same(house.ended, (1,))
        self.assertIsNone(house.lead(ASKED, 0, 0))
        self.check_same(house.ended, (1, 2))

    def test_the_first_stamp_of_an_older_one(self):
        house = House(ASKED)
        for keeper in "ab":
            house.fall(keeper)
            house.put(0, "10")
            house.rise(keeper)
        house.put(0, "11")
        house.lose("a")
        house.lose("b")
        house.lose("c")
        house.lead(ASKED, 1, 0)
        house.fall("c")
        house.put(0, "00")
        house.rise("c")
        self.check_raises(errors.Older, 1, house.lead, ASKED, 0, 0)
        house.give(1, "a")
        self.check_raises(errors.Older, 2, house.lead, ASKED, 0, 0)
        house.give(2, "b")
        self.assertIsNone(house.lead(ASKED, 0, 0))
        self.check_same((house.read(0, None), house.ended), (4, (1, 2, 3, 4)))

    def test_older_writes_go_by_their_own_lots(self):
        house = House(SECOND)
        house.fall("a")
        house.put(0, "10")
        house.rise("a")
        house.lead(THIRD, 0, 0)
        self.check_same(house.store.writes, (("b", "d"),))
        self.check_raises(errors.NotOf, "c", house.give, 1, "c")
        house.give(1, "a")
        self.check_same(house.ended, (1,))

    def test_stores_that_miss(self):
        house = House(FIRST)
        for other in (STORE, SECOND, THIRD, FEW, FULL):
            model = Model(FIRST)
            self.check_deed(house, model, ("lead", other, 0, 0))
            self.check_deed(house, model, ("lead", other, -1, None))
        self.check_seen(house, Model(FIRST))


class TestUndo(HouseChecks, unittest.TestCase):
    def test_over_each_kind_of_deed(self):
        """Undo to the beginning, and redo to the end: all that was seen is seen again."""
        words = set()
        for house, model in drawn_houses(60, 11):
            words |= {deed[0] for deed in model.deeds}
            rows = []
            while model.deeds:
                rows.append(seen(house))
                self.check_undo(house, model)
                self.check_seen(house, model)
            self.check_undo(house, model)
            while model.undone:
                self.check_redo(house, model)
                self.check_same(seen(house), rows.pop())
            self.check_redo(house, model)
        self.assertEqual(words, set(WORDS))

    def test_redo_is_gone_behind_another_deed(self):
        house = House(ASKED)
        for record in ("10", "01", "11"):
            house.put(0, record)
        house.undo()
        house.undo()
        # What is refused is no deed, nor is a read that is asked once.
        for call in (lambda: house.put(1, "00"), lambda: house.fall("z"), lambda: house.rise("a"), lambda: house.let_go(2)):
            with self.assertRaises(errors.LotError):
                call()
        house.read(0, None)
        house.redo()
        self.check_same(house.records, ("10", "01"))
        house.fall("d")
        self.check_raises(NothingToRedo, None, house.redo)
        house.undo()
        house.redo()
        self.check_same((house.down, house.records), (("d",), ("10", "01")))
        self.check_raises(NothingToRedo, None, house.redo)

    def test_a_deed_that_changes_nothing_is_one(self):
        house = House(ASKED)
        house.lose("a")
        self.check_same(house.mend("a", ()), ())
        self.check_same(house.read(0, 0), 0)
        self.check_same(house.done, 3)
        house.undo()
        self.check_same(house.done, 2)


class TestEquality(HouseChecks, unittest.TestCase):
    def test_by_journals(self):
        for house, model in drawn_houses(40, 12):
            other = House(Store(model.first.text))
            for deed in model.deeds:
                self.assertFalse(house == other)
                self.assertTrue(house != other)
                house_call(other, deed)
            self.assertTrue(house == other)
            self.assertFalse(house != other)
            # What was taken back is not told.
            keeper = model.first.shelf.circle.names[0]
            (other.rise if keeper in other.down else other.fall)(keeper)
            self.assertFalse(house == other)
            other.undo()
            self.assertTrue(house == other)

    def test_equal_stands_behind_other_deeds_are_not_equal(self):
        one, other = House(ASKED), House(ASKED)
        one.fall("a")
        one.rise("a")
        self.check_same(seen(one)[:5], seen(other)[:5])
        self.assertFalse(one == other)
        other.fall("b")
        other.rise("b")
        self.assertFalse(one == other)
        self.assertFalse(House(FIRST) == House(SECOND))

    def test_nothing_else(self):
        house = House(ASKED)
        for value in junk() + [ASKED, ASKED.text, [house], (house,), {}]:
            self.assertIs(house == value, False)
            self.assertIs(value == house, False)
            self.assertIs(house != value, True)

    def test_letting_go_keeps_reads(self):
        """Section 29 of holders: what all reading lots bring back stays."""
        for house, model in drawn_houses(60, 13):
            state = model.state()
            for stamp in range(1, state.safe() + 1):
                held = house.copy()
                held.let_go(stamp)
                for number, lot in enumerate(state.store.asks):
                    if not inside(state.down, set(state.names()) - set(lot)):
                        continue
                    self.check_same(held.read(number, None), house.read(number, None))


if __name__ == "__main__":
    unittest.main()
