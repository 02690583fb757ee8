"""Section 11: spare keepers and pieces, and shelves by which the same lots bring back."""

import itertools
import unittest

from helper import Checks, all_lots, deep, junk, one_of
from lotkeepers.errors import BadChanges, OtherShelf
from lotkeepers.shelves import Shelf
from lotkeepers.spare import same_lots, shows_same_lots, spare, spare_pieces, summed
from test_bringing import NEVER, is_back, small_shelves
from test_shelves import SHELF, SHELVES, all_records, all_spots, value_of

NO_CHANGES = [
    [], (), None, True, 0, "xy", "", {}, ("x", "y"), (("x",),), (("x",), ("y",), ("x",)), [("x",), ("y",)], (["x"], ["y"]),
    (("x",), ["y"]), (("x",), "y"), (("x",), ("x",)), (("x",), ()), ((), ()), (("x",), ("z",)), (("y", "x"), ("y",)),
    (("x", "x"), ("y",)), (("x", "y"), ("x", "y")), (("x",), (1,)), (("x",), (None,)), (("x",), None), (("x",), (("y",),)),
    (("x",), (["y"],)), deep(30), (deep(30), ("y",)), (("x",), True), (("x", "y", "y"), ("y",)),
]

OTHERS = [
    SHELF.text, SHELF.circle, None, True, 0, (), [SHELF], (SHELF,), {}, deep(30), SHELF.pieces,
    Shelf("parts x y\nkeeper a x\nkeeper b y\nkeeper c x+y"), Shelf("parts x y\nkeeper b x\nkeeper a y\nkeeper c x+y\nkeeper d x y"),
    Shelf("parts x y\nkeeper a x\nkeeper b y\nkeeper c x+y\nkeeper e x y"),
]


def with_spots(shelf, lot, spots):
    """Whether the pieces of a lot at these spots tell all records."""
    rows = []
    for record in all_records(shelf):
        rows.append(tuple(value_of(shelf, shelf.pieces[shelf.circle.names.index(keeper)][number], record)
                          for keeper, number in spots if keeper in lot))
    return len(set(rows)) == len(rows)


class TestSpare(Checks, unittest.TestCase):
    def test_keepers(self):
        for shelf in SHELVES + NEVER + list(small_shelves()):
            names = shelf.circle.names
            right = tuple(name for name in names if is_back(shelf, tuple(other for other in names if other != name)))
            self.check_same(spare(shelf=shelf), right)
        for shelf in NEVER:
            self.check_same(spare(shelf), ())

    def test_pieces(self):
        for shelf in SHELVES[:3] + SHELVES[4:] + NEVER + list(small_shelves()):
            spots = all_spots(shelf)
            right = []
            for spot in spots:
                others = [other for other in spots if other != spot]
                if all(with_spots(shelf, lot, others) == is_back(shelf, lot) for lot in all_lots(shelf.circle.names)):
                    right.append(spot)
            self.check_same(spare_pieces(shelf=shelf), tuple(right))
        for shelf in NEVER:
            self.check_same(spare_pieces(shelf), tuple(all_spots(shelf)))

    def test_alike_pieces_are_spare_each_by_itself(self):
        shelf = Shelf("parts x\nkeeper a x x\nkeeper b x")
        self.check_same(spare_pieces(shelf), (("a", 0), ("a", 1)))
        # A keeper that brings nothing by itself may be left without a piece.
        self.check_same(spare_pieces(Shelf("parts x y\nkeeper a x y\nkeeper b x")), (("b", 0),))


class TestSameLots(Checks, unittest.TestCase):
    def right_ones(self, one, other):
        parts = [("parts", lot, 0 if is_back(one, lot) else 1) for lot in all_lots(one.circle.names)
                 if is_back(one, lot) != is_back(other, lot)]
        return parts or [("same",)]

    def test_small_shelves(self):
        every = [shelf for shelf in small_shelves() if len(shelf.circle) == 3]
        for one in every:
            for other in every[::2]:
                rights = self.right_ones(one, other)
                self.assertTrue(one_of(rights)(same_lots(one=one, other=other)))
                for value in rights:
                    self.assertIs(shows_same_lots(one=one, other=other, value=value), True)
        for one in every[::5]:
            for other in every[::7]:
                rights = self.right_ones(one, other)
                self.check_shows(shows_same_lots, (one, other), one_of(rights), rights)
                for lot in all_lots(one.circle.names):
                    for number in range(-1, 3):
                        value = ("parts", lot, number)
                        self.assertIs(shows_same_lots(one, other, value), value in rights)

    def test_truths_are_no_numbers(self):
        other = Shelf(SHELF.text.replace("keeper d x y", "keeper d x"))
        self.assertIs(shows_same_lots(SHELF, other, ("parts", ("d",), 0)), True)
        self.assertIs(shows_same_lots(SHELF, other, ("parts", ("d",), False)), False)
        self.assertIs(shows_same_lots(other, SHELF, ("parts", ("d",), 1)), True)
        self.assertIs(shows_same_lots(other, SHELF, ("parts", ("d",), True)), False)
        self.assertIs(shows_same_lots(other, SHELF, ("parts", ("a", "b"), 1)), False)

    def test_other_parts(self):
        other = Shelf("parts w\nkeeper a w\nkeeper b w\nkeeper c w\nkeeper d w")
        rights = self.right_ones(SHELF, other)
        self.assertTrue(one_of(rights)(same_lots(SHELF, other)))
        self.check_shows(shows_same_lots, (SHELF, other), one_of(rights), rights)

    def test_wrong_ones(self):
        wrong = OTHERS + [value for value in junk() if value != SHELF]
        for call in (same_lots, lambda one, other: shows_same_lots(one, other, ("same",)),
                     lambda one, other: shows_same_lots(one, other, ("parts", ("a",), 0))):
            self.check_refuses(OtherShelf, wrong, lambda value: call(SHELF, value))
            self.check_refuses(OtherShelf, wrong, lambda value: call(one=SHELF, other=value))


class TestSummed(Checks, unittest.TestCase):
    def all_changes(self, shelf):
        rows = [some for many in range(len(shelf.parts) + 1) for some in itertools.combinations(shelf.parts, many)]
        return itertools.product(rows, repeat=len(shelf.parts))

    def tells_all(self, shelf, changes):
        held = {tuple(value_of(shelf, row, record) for row in changes) for record in all_records(shelf)}
        return len(held) == 2 ** len(shelf.parts)

    def check_changed(self, shelf, changes):
        if not self.tells_all(shelf, changes):
            self.check_keeps(BadChanges, changes, summed, shelf, changes)
            return
        made = summed(shelf=shelf, changes=changes)
        rows = []
        for row in shelf.pieces:
            sums = [[changes[shelf.parts.index(part)] for part in piece] for piece in row]
            rows.append(tuple(tuple(part for part in shelf.parts if sum(part in one for one in held) % 2) for held in sums))
        self.check_same(made.pieces, tuple(rows))
        self.check_same((made.parts, made.circle.names), (shelf.parts, shelf.circle.names))
        self.check_same(same_lots(shelf, made), ("same",))
        lines = [" ".join(("keeper", name) + tuple("+".join(piece) for piece in row)) for name, row in zip(made.circle.names, rows)]
        self.check_same(made.text, "\n".join(["parts " + " ".join(shelf.parts)] + lines))

    def test_all_changes_of_small_shelves(self):
        for shelf in (SHELF, SHELVES[1], SHELVES[2], NEVER[0], NEVER[1]):
            for changes in self.all_changes(shelf):
                self.check_changed(shelf, changes)

    def test_four_parts(self):
        for changes in list(self.all_changes(SHELVES[3]))[::997]:
            self.check_changed(SHELVES[3], changes)
        self.check_changed(SHELVES[3], (("w", "x", "y", "z"), ("x", "y"), ("y", "z"), ("z",)))

    def test_nothing_changed(self):
        for shelf in SHELVES + NEVER:
            self.assertEqual(summed(shelf, tuple((part,) for part in shelf.parts)), shelf)

    def test_wrong_ones(self):
        self.check_refuses(BadChanges, NO_CHANGES, lambda value: summed(SHELF, value))
        self.check_refuses(BadChanges, NO_CHANGES, lambda value: summed(shelf=SHELF, changes=value))


if __name__ == "__main__":
    unittest.main()
