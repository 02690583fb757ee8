"""Section 38: blocks of a house, and copies of it."""

import random
import unittest

from helper import deep, junk
from house_model import CROSSING, HouseChecks, Model, drawn_deed, drawn_houses, first_error, house_call, seen, sound_stores
from lotkeepers import errors
from lotkeepers.errors import LotError, NoKeeper, NothingToRedo, NothingToUndo, NoTrial
from lotkeepers.houses import House
from lotkeepers.journals import journal
from test_runs import ASKED


class Halt(Exception):
    """An error of nobody's."""


def behind(house):
    """All that is seen of a house: how it stands now, and how behind each undo and each redo."""
    held = house.copy()
    rows = [seen(held), journal(held)]
    for call in (held.redo, held.undo):
        try:
            while True:
                call()
                rows.append(seen(held))
        except (NothingToRedo, NothingToUndo):
            rows.append(None)
    return rows


def some_deeds(draw, house, model, many):
    """Does deeds in both, also undo and redo."""
    for _ in range(many):
        kind = draw.random()
        if kind < 0.2 and model.deeds:
            house.undo()
            model.undone.append(model.deeds.pop())
        elif kind < 0.35 and model.undone:
            house.redo()
            model.deeds.append(model.undone.pop())
        else:
            deed = drawn_deed(draw, model.state(), 0)
            if first_error(model.state(), *deed) is None:
                house_call(house, deed)
                model.do(deed)


class TestBlocks(HouseChecks, unittest.TestCase):
    def setUp(self):
        self.house = House(ASKED)
        self.house.put(0, "10")
        self.house.fall("d")
        self.house.undo()
        self.before = behind(self.house)

    def test_left_by_neither(self):
        with self.house.trial() as held:
            self.assertIs(held, self.house)
            self.house.put(0, "11")
            self.house.fall("a")
            self.check_same((self.house.records, self.house.down, self.house.done), (("10", "11"), ("a",), 3))
        self.check_same(behind(self.house), self.before)

    def test_left_by_keep(self):
        with self.house.trial():
            self.house.put(0, "11")
            self.assertIsNone(self.house.keep())
            # What is done behind keep is kept as well.
            self.house.fall("a")
        self.check_same((self.house.records, self.house.down, self.house.done), (("10", "11"), ("a",), 3))
        self.house.undo()
        self.house.undo()
        self.house.undo()
        self.check_raises(NothingToUndo, None, self.house.undo)

    def test_left_by_an_error(self):
        error = Halt("halt")
        for keeps in (False, True):
            with self.assertRaises(Halt) as caught:
                with self.house.trial():
                    self.house.put(0, "11")
                    if keeps:
                        self.house.keep()
                    raise error
            self.assertIs(caught.exception, error)
            self.check_same(behind(self.house), self.before)
        with self.assertRaises(NoKeeper):
            with self.house.trial() as held:
                held.keep()
                held.put(0, "00")
                held.fall("z")
        self.check_same(behind(self.house), self.before)
        self.check_raises(NoTrial, None, self.house.keep)

    def test_an_error_that_does_not_leave_it(self):
        with self.house.trial() as held:
            held.keep()
            held.put(0, "01")
            with self.assertRaises(NoKeeper):
                held.fall("z")
        self.check_same(self.house.records, ("10", "01"))

    def test_all_kinds_of_errors(self):
        for kind in (Halt, KeyboardInterrupt, SystemExit, GeneratorExit, LotError, ValueError):
            with self.assertRaises(kind):
                with self.house.trial():
                    self.house.keep()
                    self.house.fall("b")
                    raise kind("x")
            self.check_same(behind(self.house), self.before)

    def test_left_by_other_ways(self):
        def leave(house):
            with house.trial():
                house.put(0, "00")
                return house.done

        self.check_same(leave(self.house), 2)
        self.check_same(behind(self.house), self.before)
        for number in range(3):
            with self.house.trial():
                self.house.fall("abc"[number])
                if number == 1:
                    self.house.keep()
                    continue
        self.check_same(self.house.down, ("b",))

    def test_keep_is_of_the_innermost_block(self):
        with self.house.trial():
            self.house.fall("a")
            with self.house.trial():
                self.house.fall("b")
                self.house.keep()
            self.check_same(self.house.down, ("a", "b"))
            with self.house.trial():
                self.house.fall("c")
            self.check_same(self.house.down, ("a", "b"))
        self.check_same(behind(self.house), self.before)
        with self.house.trial():
            self.house.fall("a")
            self.house.keep()
            with self.house.trial():
                self.house.fall("b")
            self.check_same(self.house.down, ("a",))
        self.check_same(self.house.down, ("a",))

    def test_keep_behind_an_inner_block(self):
        with self.house.trial():
            with self.house.trial():
                self.house.fall("b")
                self.house.keep()
            self.house.keep()
        self.check_same(self.house.down, ("b",))
        with self.house.trial():
            with self.assertRaises(Halt):
                with self.house.trial():
                    self.house.fall("c")
                    self.house.keep()
                    raise Halt()
            self.check_same(self.house.down, ("b",))
            self.house.fall("a")
            self.house.keep()
        self.check_same(self.house.down, ("a", "b"))

    def test_no_block(self):
        self.check_raises(NoTrial, None, self.house.keep)
        block = self.house.trial()
        # A block begins when it is entered, not when it is asked for.
        self.check_raises(NoTrial, None, self.house.keep)
        self.house.fall("a")
        with block:
            self.house.fall("b")
        self.check_same(self.house.down, ("a",))
        self.check_raises(NoTrial, None, self.house.keep)
        with self.house.trial():
            self.house.keep()
            self.house.keep()
        self.check_raises(NoTrial, None, self.house.keep)

    def test_undo_and_redo_of_what_was_done_ahead(self):
        with self.house.trial() as held:
            held.redo()
            self.check_same(held.down, ("d",))
            held.undo()
            held.undo()
            self.check_same((held.records, held.done), ((), 0))
            self.check_raises(NothingToUndo, None, held.undo)
            held.fall("c")
            self.check_raises(NothingToRedo, None, held.redo)
        self.check_same(behind(self.house), self.before)
        with self.house.trial() as held:
            held.undo()
            held.keep()
        self.check_same(self.house.done, 0)
        self.house.redo()
        self.house.redo()
        self.check_same(behind(self.house)[:1], [seen(self.house)])
        self.check_same((self.house.records, self.house.down), (("10",), ("d",)))

    def test_reads_within_blocks(self):
        with self.house.trial() as held:
            for keeper in "abc":
                held.lose(keeper)
            self.check_same(held.read(0, None), 0)
        self.check_same(self.house.read(0, None), 1)


class TestDrawnBlocks(HouseChecks, unittest.TestCase):
    def test_blocks_within_blocks(self):
        draw = random.Random(39)
        for store in sound_stores(60):
            house, model = House(store), Model(store)
            some_deeds(draw, house, model, 8)
            self.enter(draw, house, model, 3)
            self.check_seen(house, model)
            self.check_raises(NoTrial, None, house.keep)

    def enter(self, draw, house, model, depth):
        """A block with deeds and blocks in it, left in each way."""
        before, deeds, undone = behind(house), list(model.deeds), list(model.undone)
        way = draw.choice(("keep", "neither", "error"))
        try:
            with house.trial():
                some_deeds(draw, house, model, draw.randint(0, 5))
                if way == "keep" or draw.random() < 0.5 and way == "error":
                    house.keep()
                for _ in range(draw.randint(0, 2) if depth else 0):
                    self.enter(draw, house, model, depth - 1)
                    self.check_seen(house, model)
                some_deeds(draw, house, model, draw.randint(0, 3))
                if way == "error":
                    raise Halt()
        except Halt:
            self.assertEqual(way, "error")
        if way != "keep":
            model.deeds, model.undone = deeds, undone
            self.check_same(behind(house), before)
        self.check_seen(house, model)


class TestTried(HouseChecks, unittest.TestCase):
    def setUp(self):
        self.house = House(CROSSING)
        self.house.put(1, "10")
        self.house.undo()
        self.before = behind(self.house)

    def test_what_look_returns(self):
        values = junk() + [self.house]
        for value in values:
            self.assertIs(self.house.tried(lambda held: value), value)
            self.assertIs(self.house.tried(look=lambda held: value, keep=True), value)
        self.assertIs(self.house.tried(lambda held: held), self.house)
        self.check_same(behind(self.house), self.before)

    def test_kept_by_true_alone(self):
        for value in [1, None, False, 0, "True", (True,), [True], "", (), {}, 2, -1, deep(30), self.house]:
            self.check_same(self.house.tried(lambda held: held.put(0, "11"), keep=value), 1)
            self.check_same(behind(self.house), self.before)
        self.check_same(self.house.tried(lambda held: held.put(0, "11")), 1)
        self.check_same(behind(self.house), self.before)
        self.check_same(self.house.tried(lambda held: held.put(0, "11"), keep=True), 1)
        self.check_same((self.house.records, self.house.done), (("11",), 1))
        self.check_raises(NothingToRedo, None, self.house.redo)

    def test_keep_by_name_alone(self):
        with self.assertRaises(TypeError):
            self.house.tried(lambda held: held.fall("a"), True)
        self.check_same(behind(self.house), self.before)

    def test_a_look_that_keeps(self):
        def look(held):
            held.fall("a")
            held.keep()
            held.fall("b")
            return held.down

        for value in (False, None, 1, True):
            house = self.house.copy()
            self.check_same(house.tried(look, keep=value), ("a", "b"))
            self.check_same(house.down, ("a", "b"))
        # Keep of a block within look is of that block alone.
        def deeper(held):
            held.fall("a")
            with held.trial():
                held.fall("b")
                held.keep()
            return held.down

        self.check_same(self.house.tried(deeper), ("a", "b"))
        self.check_same(behind(self.house), self.before)
        self.check_same(self.house.tried(deeper, keep=True), ("a", "b"))
        self.check_same(self.house.down, ("a", "b"))

    def test_a_look_that_raises(self):
        for value in (False, True):
            for kind in (Halt, LotError, KeyError, SystemExit):
                error = kind("x")

                def look(held):
                    held.fall("a")
                    held.keep()
                    raise error

                with self.assertRaises(kind) as caught:
                    self.house.tried(look, keep=value)
                self.assertIs(caught.exception, error)
                self.check_same(behind(self.house), self.before)
                self.check_raises(NoTrial, None, self.house.keep)
        self.check_raises(errors.NoLot, 7, self.house.tried, lambda held: held.put(7, "11"))

    def test_tried_within_tried(self):
        def outer(held):
            held.fall("a")
            told = held.tried(lambda inner: inner.fall("b") or inner.down)
            kept = held.tried(lambda inner: inner.fall("c") or inner.down, keep=True)
            return told, kept, held.down

        self.check_same(self.house.tried(outer), (("a", "b"), ("a", "c"), ("a", "c")))
        self.check_same(behind(self.house), self.before)
        with self.house.trial() as held:
            self.check_same(held.tried(outer, keep=True)[2], ("a", "c"))
            self.check_same(held.down, ("a", "c"))
        self.check_same(behind(self.house), self.before)

    def test_a_method_of_the_house(self):
        self.check_same(self.house.tried(House.copy) == self.house, True)
        self.house.tried(House.redo, keep=True)
        self.check_same(self.house.records, ("10",))


class TestCopies(HouseChecks, unittest.TestCase):
    def test_alike_and_independent(self):
        draw = random.Random(40)
        for house, model in drawn_houses(60, 41):
            for _ in range(draw.randint(0, 3)):
                if model.deeds:
                    self.check_undo(house, model)
            copied = house.copy()
            self.assertIsInstance(copied, House)
            self.assertIsNot(copied, house)
            self.assertTrue(copied == house)
            self.check_same(behind(copied), behind(house))
            other = Model(model.first)
            other.deeds, other.undone = list(model.deeds), list(model.undone)
            some_deeds(draw, copied, other, 6)
            self.check_seen(copied, other)
            self.check_seen(house, model)
            some_deeds(draw, house, model, 6)
            self.check_seen(copied, other)
            self.check_seen(house, model)

    def test_within_a_block(self):
        house = House(ASKED)
        house.put(0, "10")
        with house.trial():
            house.fall("a")
            copied = house.copy()
            self.check_raises(NoTrial, None, copied.keep)
            copied.fall("b")
            self.check_same((house.down, copied.down), (("a",), ("a", "b")))
            with copied.trial():
                copied.fall("c")
                house.keep()
            self.check_same(copied.down, ("a", "b"))
        self.check_same((house.down, copied.down), (("a",), ("a", "b")))
        with house.trial():
            inner = house.copy()
            house.fall("d")
            with inner.trial():
                inner.keep()
                inner.fall("c")
        self.check_same((house.down, inner.down), (("a",), ("a", "c")))

    def test_a_block_of_a_copy_is_no_block_of_the_house(self):
        house = House(ASKED)
        copied = house.copy()
        with copied.trial():
            self.check_raises(NoTrial, None, house.keep)
            house.fall("a")
        self.check_same((house.down, copied.down), (("a",), ()))


if __name__ == "__main__":
    unittest.main()
