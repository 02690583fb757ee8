"""Section 9: what brings back."""

import itertools
import unittest

from helper import Checks, alike, all_lots, least_lots, of_rows, one_of
from lotkeepers.bringing import bringing, brings, shows_brings, unlike
from lotkeepers.errors import BadLot, NeverBack
from lotkeepers.shelves import Shelf
from test_families import NO_LOT
from test_shelves import SHELF, SHELVES, all_records, value_of

NEVER = [
    Shelf("parts x y\nkeeper a x\nkeeper b x x"),
    Shelf("parts x y z\nkeeper a x+y\nkeeper b y+z\nkeeper c x+z"),
    Shelf("parts w x y z\nkeeper c w x+z\nkeeper a w+x+z\nkeeper b y y"),
]


def small_shelves():
    """All shelves of two parts and three keepers with one piece each, and some with two."""
    words = ("x", "y", "x+y")
    for row in itertools.product(words, repeat=3):
        yield Shelf("parts x y\n" + "\n".join(f"keeper {name} {word}" for name, word in zip("bac", row)))
    for one, other in itertools.product(itertools.product(words, repeat=2), repeat=2):
        yield Shelf(f"parts x y\nkeeper b {' '.join(one)}\nkeeper a {' '.join(other)}")


def told_by(shelf, lot, record):
    """All values of the pieces of a lot."""
    places = [shelf.circle.names.index(keeper) for keeper in lot]
    return tuple(value_of(shelf, piece, record) for place in places for piece in shelf.pieces[place])


def is_back(shelf, lot):
    """By going through all records."""
    return len({told_by(shelf, lot, record) for record in all_records(shelf)}) == 2 ** len(shelf.parts)


def sums_of(shelf, lot):
    """All sums of spots of a lot, each with the parts to which it comes."""
    spots = [(keeper, number) for keeper in lot
             for number in range(len(shelf.pieces[shelf.circle.names.index(keeper)]))]
    for many in range(len(spots) + 1):
        for some in itertools.combinations(spots, many):
            pieces = [shelf.pieces[shelf.circle.names.index(keeper)][number] for keeper, number in some]
            yield some, tuple(part for part in shelf.parts if sum(part in piece for piece in pieces) % 2)


def lost_to(shelf, lot):
    """All records that are lost to a lot."""
    return [record for record in all_records(shelf) if "1" in record and not any(told_by(shelf, lot, record))]


def sums_back(shelf, lot):
    """For each part, all sums of spots of the lot that come to it."""
    held = list(sums_of(shelf, lot))
    return [[some for some, comes in held if comes == (part,)] for part in shelf.parts]


class TestBrings(Checks, unittest.TestCase):
    def check_lot(self, shelf, lot, near_too):
        made = brings(shelf=shelf, lot=lot)
        self.assertTrue(alike(made, brings(shelf, lot)))
        if not is_back(shelf, lot):
            rights = [("lost", record) for record in lost_to(shelf, lot)]
            judge = one_of(rights)
        else:
            rows = sums_back(shelf, lot)
            rights = [("back", tuple(row[0] for row in rows)), ("back", tuple(row[-1] for row in rows))]
            judge = of_rows("back", rows)
        self.assertTrue(judge(made), (shelf.text, lot, made))
        if near_too:
            self.check_shows(shows_brings, (shelf, lot), judge, [made] + rights[:4])
        for value in rights + [made]:
            self.assertIs(shows_brings(shelf=shelf, lot=lot, value=value), True)

    def test_small_shelves(self):
        for shelf in small_shelves():
            for lot in all_lots(shelf.circle.names):
                self.check_lot(shelf, lot, False)

    def test_other_shelves(self):
        for shelf in NEVER + SHELVES[:3]:
            for lot in all_lots(shelf.circle.names):
                self.check_lot(shelf, lot, True)
        for lot in all_lots(SHELVES[3].circle.names):
            self.check_lot(SHELVES[3], lot, False)

    def test_ends(self):
        self.check_same(brings(Shelf("parts x\nkeeper a x\nkeeper b x"), ())[0], "lost")
        self.check_same(brings(Shelf("parts x\nkeeper a x\nkeeper b x"), ()), ("lost", "1"))
        self.assertIs(shows_brings(SHELF, (), ("lost", "01")), True)
        self.assertIs(shows_brings(SHELF, (), ("lost", "00")), False)
        self.assertIs(shows_brings(SHELF, ("a", "b"), ("back", ((("a", 0),), (("b", 0),)))), True)
        self.assertIs(shows_brings(SHELF, ("a", "b"), ("back", ((("a", False),), (("b", 0),)))), False)
        self.assertIs(shows_brings(SHELF, ("a", "b"), ("back", [(("a", 0),), (("b", 0),)])), False)
        # Keepers that are not of the lot tell nothing.
        self.assertIs(shows_brings(SHELF, ("a", "b"), ("back", ((("b", 0), ("c", 0)), (("b", 0),)))), False)
        self.assertIs(shows_brings(SHELF, ("d",), ("back", ((("d", 0),), (("d", 1),)))), True)
        self.assertIs(shows_brings(SHELF, ("d",), ("back", ((("d", 0),), (("d", True),)))), False)

    def test_wrong_lots(self):
        for call in (brings, unlike, lambda shelf, lot: shows_brings(shelf, lot, ("lost", "01"))):
            self.check_refuses(BadLot, NO_LOT, lambda value: call(SHELF, value))
            self.check_refuses(BadLot, NO_LOT, lambda value: call(shelf=SHELF, lot=value))


class TestUnlike(Checks, unittest.TestCase):
    def test_by_going_through_all_records(self):
        for shelf in SHELVES + NEVER + list(small_shelves()):
            for lot in all_lots(shelf.circle.names):
                right = len({told_by(shelf, lot, record) for record in all_records(shelf)})
                self.check_same(unlike(shelf=shelf, lot=lot), right)


class TestBringing(Checks, unittest.TestCase):
    def test_by_going_through_all_lots(self):
        for shelf in SHELVES + NEVER + list(small_shelves()):
            every = all_lots(shelf.circle.names)
            backs = [lot for lot in every if is_back(shelf, lot)]
            if backs:
                self.check_same(bringing(shelf=shelf), least_lots(shelf.circle.names, backs))
                continue
            with self.assertRaises(NeverBack) as caught:
                bringing(shelf)
            self.assertIn(caught.exception.value, lost_to(shelf, shelf.circle.names))

    def test_never_back(self):
        for shelf, record in zip(NEVER[:2], ("01", "111")):
            with self.assertRaises(NeverBack) as caught:
                bringing(shelf)
            self.check_same(caught.exception.value, record)


if __name__ == "__main__":
    unittest.main()
