"""Section 13: sound stores."""

import random
import unittest

from helper import Checks, alike, all_lots, deep, junk
from lotkeepers.bringing import brings
from lotkeepers.errors import NoLot, Unsound
from lotkeepers.shelves import Shelf
from lotkeepers.sound import refuse_unsound, shared, shows_sound, sound
from lotkeepers.stores import store_of
from test_bringing import NEVER, is_back, lost_to, small_shelves, sums_back
from test_shelves import SHELF
from test_stores import STORE

NO_NUMBERS = [-1, 8, None, True, False, "0", "", (), (0,), [0], {}, ("a",), deep(30), 999999999]
# Papers get many: a row for each writing lot with sums for each reading lot.
SMALL = store_of(SHELF, (("a", "b", "c"), ("d",)), (("a", "b", "d"), ("a", "b", "c", "d")))
FEW = store_of(Shelf("parts x\nkeeper a x\nkeeper b x x"), (("a", "b"),), (("b",), ("a", "b")))


def met(store, write, ask):
    return tuple(name for name in store.shelf.circle.names if name in store.writes[write] and name in store.asks[ask])


def pairs(store):
    return [(write, ask) for write in range(len(store.writes)) for ask in range(len(store.asks))]


def is_sound(store):
    return all(is_back(store.shelf, met(store, write, ask)) for write, ask in pairs(store))


def drawn_stores(many):
    """Stores of small shelves, drawn alike at each run."""
    draw = random.Random(13)
    shelves = list(small_shelves()) + NEVER + [SHELF] * 12
    for _ in range(many):
        shelf = draw.choice(shelves)
        every = all_lots(shelf.circle.names)[1:]
        wide = every[len(every) // 3:]
        writes, asks = [tuple(draw.sample(draw.choice((every, wide)), draw.randint(1, len(wide[:3])))) for _ in range(2)]
        yield store_of(shelf, writes, asks)


class TestShared(Checks, unittest.TestCase):
    def test_all_pairs(self):
        for store in [STORE, SMALL, FEW] + list(drawn_stores(30)):
            for write, ask in pairs(store):
                self.check_same(shared(store=store, write=write, ask=ask), met(store, write, ask))

    def test_wrong_numbers(self):
        for value in NO_NUMBERS + [2]:
            self.check_keeps(NoLot, value, shared, STORE, value, 0)
            for other in NO_NUMBERS:
                self.check_keeps(NoLot, value, shared, STORE, ask=other, write=value)
        for value in NO_NUMBERS + [3]:
            self.check_keeps(NoLot, value, shared, STORE, 1, value)
        self.check_same(shared(STORE, 1, 2), ("d",))


class TestSound(Checks, unittest.TestCase):
    def judge(self, store):
        """Whether any value is a right result, by going through all records and all sums."""
        if not is_sound(store):
            rights = [("misses", write, ask, record) for write, ask in pairs(store)
                      for record in (lost_to(store.shelf, met(store, write, ask))
                                     if not is_back(store.shelf, met(store, write, ask)) else [])]
            return lambda value: any(alike(value, right) for right in rights)
        rows = [[sums_back(store.shelf, met(store, write, ask)) for ask in range(len(store.asks))]
                for write in range(len(store.writes))]

        def is_right(value):
            if not (type(value) is tuple and len(value) == 2 and value[0] == "sound" and type(value[1]) is tuple):
                return False
            if len(value[1]) != len(rows) or not all(type(row) is tuple and len(row) == len(store.asks) for row in value[1]):
                return False
            return all(self.is_paper(sums, right) for row, held in zip(value[1], rows) for sums, right in zip(row, held))
        return is_right

    def is_paper(self, sums, right):
        if type(sums) is not tuple or len(sums) != len(right):
            return False
        return all(any(alike(some, one) for one in row) for some, row in zip(sums, right))

    def test_drawn_stores(self):
        kinds = []
        for store in drawn_stores(300):
            judge = self.judge(store)
            made = sound(store=store)
            kinds.append(made[0])
            self.assertEqual(made[0], "sound" if is_sound(store) else "misses")
            self.assertTrue(judge(made), (store.text, made))
            self.assertIs(shows_sound(store=store, value=made), True)
        self.assertGreater(kinds.count("sound"), 30)
        self.assertGreater(kinds.count("misses"), 30)

    def test_near_right_values(self):
        for store in (FEW, STORE, SMALL, STORE.with_write(("b", "c"))):
            self.check_shows(shows_sound, (store,), self.judge(store), [sound(store)])
        misses = [("misses", write, ask, record) for write in range(2) for ask in range(3) for record in ("01", "10", "11")]
        judge = self.judge(STORE)
        self.check_shows(shows_sound, (STORE,), judge, [value for value in misses if judge(value)])
        self.assertIs(shows_sound(STORE, ("misses", 0, 0, "01")), True)
        for value in (("misses", False, 0, "01"), ("misses", 0, False, "01"), ("misses", 0, 0, "00"), ("misses", 0, 0, "10"),
                      ("misses", -2, 0, "01"), ("misses", 0, 3, "01"), ("misses", 2, 0, "01"), ("misses", 0, -3, "01"), ("misses", 1, 0, "01"), ["misses", 0, 0, "01"]):
            self.assertIs(shows_sound(STORE, value), False, value)

    def test_other_sums_put_together_anew(self):
        papers = sound(SMALL)[1]
        other = ((("b", 0), ("c", 0)), (("a", 0), ("c", 0)))
        self.assertIs(shows_sound(SMALL, ("sound", ((papers[0][0], other), papers[1]))), True)
        # The keepers in both are a and b alone: c has no say in it.
        self.assertIs(shows_sound(SMALL, ("sound", ((other, papers[0][1]), papers[1]))), False)
        self.assertIs(shows_sound(SMALL, ("sound", papers[::-1])), False)
        self.assertIs(shows_sound(SMALL, ("sound", papers[:1])), False)
        self.assertIs(shows_sound(SMALL, ("sound", (papers[0], papers[1][:1]))), False)
        self.assertIs(shows_sound(SMALL, ("sound", (papers[0], list(papers[1])))), False)

    def test_junk(self):
        for store in (STORE, SMALL):
            for value in junk() + [("sound", value) for value in junk()] + [("misses", 0, 0, value) for value in junk()]:
                self.assertIs(shows_sound(store, value), self.judge(store)(value), value)

    def test_full_store(self):
        """What is told of eight lots of each kind is taken again."""
        shelf = Shelf("parts w x y z\n" + "\n".join(f"keeper {name} w+x+y+z x" for name in "ab")
                      + "\n" + "\n".join(f"keeper {name} w+y z" for name in "cd") + "\nkeeper e w x+z\nkeeper f y z")
        every = [lot for lot in all_lots("abcdef") if len(lot) >= 5]
        store = store_of(shelf, tuple(every[:7]), tuple(every[:7]))
        self.assertIs(shows_sound(store, sound(store)), True)
        self.assertTrue(self.judge(store)(sound(store)))


class TestUnsound(Checks, unittest.TestCase):
    def test_what_sound_tells(self):
        refuse_unsound(SMALL)
        refuse_unsound(store=FEW)
        for store in drawn_stores(60):
            if is_sound(store):
                self.assertIsNone(refuse_unsound(store))
                continue
            with self.assertRaises(Unsound) as caught:
                refuse_unsound(store)
            self.assertIs(shows_sound(store, caught.exception.value), True)
            self.assertEqual(caught.exception.value[0], "misses")

    def test_each_shared_lot_brings(self):
        papers = sound(SMALL)[1]
        for write, ask in pairs(SMALL):
            self.check_same(("back", papers[write][ask]), brings(SHELF, shared(SMALL, write, ask)))


if __name__ == "__main__":
    unittest.main()
