"""Section 30: pieces that are made anew."""

import itertools
import unittest

from helper import Checks, all_lots, deep, junk, least_lots, of_rows, one_of
from lotkeepers.errors import BadAnswers, BadHelpers, BadSum, NoHelp, NoKeeper
from lotkeepers.mending import helping, made, mends, shows_mends
from lotkeepers.shelves import Shelf
from test_answers import NO_ANSWERS, all_answers, true_answer
from test_bringing import NEVER, small_shelves, sums_of, told_by
from test_costs import without
from test_families import NO_LOT
from test_lies import FIVE, TWO_EACH
from test_shelves import NO_KEEPERS, NO_SUMS, SHELF, SHELVES, all_records, value_of

ALL = SHELVES[:3] + SHELVES[4:] + NEVER + [FIVE, TWO_EACH] + list(small_shelves())[::3]
SUMS = ((("a", 0), ("b", 0)),)
ANSWERS = (("a", "1"), ("b", "1"))
NO_HELPERS = NO_LOT + [
    ("c",), ("a", "c"), ("c", "d"), ("a", "b", "c", "d"), [], "", ["a", "b"], ("a", True), ("a", None), (("a", 0),), SHELF,
    (SHELF,),
    SHELF.circle, ("d", "b", "a"),
]


def pieces_of(shelf, keeper):
    return shelf.pieces[shelf.circle.names.index(keeper)]


def others_of(shelf, keeper):
    return without(shelf.circle.names, keeper)


def hidden(shelf, keeper, number, helpers):
    """All records on which the piece has the value 1, and all pieces of the helpers the value 0."""
    piece = pieces_of(shelf, keeper)[number]
    return [record for record in all_records(shelf) if value_of(shelf, piece,
                                                                record) and not any(told_by(shelf, helpers, record))]


def is_lost(shelf, keeper, number, helpers):
    """Whether the helpers tell some two records alike that the piece tells from each other."""
    piece = pieces_of(shelf, keeper)[number]
    held = {(told_by(shelf, helpers, record), value_of(shelf, piece, record)) for record in all_records(shelf)}
    return len({told for told, _ in held}) < len(held)


def first_lost(shelf, keeper, helpers):
    for number in range(len(pieces_of(shelf, keeper))):
        if is_lost(shelf, keeper, number, helpers):
            return number
    return None


def sums_for(shelf, keeper, helpers):
    """For each piece of the keeper, all sums of spots of helpers that come to it."""
    held = list(sums_of(shelf, helpers))
    return [[some for some, comes in held if comes == piece] for piece in pieces_of(shelf, keeper)]


def all_helpers(shelf, keeper):
    return all_lots(others_of(shelf, keeper))


class TestMends(Checks, unittest.TestCase):
    def check_lots(self, shelf, keeper, helpers, near_too):
        value = mends(shelf=shelf, keeper=keeper, helpers=helpers)
        if first_lost(shelf, keeper, helpers) is None:
            rows = sums_for(shelf, keeper, helpers)
            rights = [("mended", tuple(row[0] for row in rows)), ("mended", tuple(row[-1] for row in rows))]
            judge = of_rows("mended", rows)
        else:
            lost = [number for number in range(len(pieces_of(shelf, keeper))) if is_lost(shelf, keeper, number, helpers)]
            rights = [("lost", number, record) for number in lost for record in hidden(shelf, keeper, number, helpers)]
            judge = one_of(rights)
        self.assertTrue(judge(value), (shelf.text, keeper, helpers, value))
        for right in rights + [value]:
            self.assertIs(shows_mends(shelf=shelf, keeper=keeper, helpers=helpers, value=right), True)
        if near_too:
            self.check_shows(shows_mends, (shelf, keeper, helpers), judge, [value] + rights[:4])

    def test_each_keeper_and_each_lot(self):
        for shelf in ALL:
            for keeper in shelf.circle.names:
                for helpers in all_helpers(shelf, keeper):
                    self.check_lots(shelf, keeper, helpers, False)
        for keeper in SHELVES[3].circle.names:
            for helpers in all_helpers(SHELVES[3], keeper)[::3]:
                self.check_lots(SHELVES[3], keeper, helpers, False)

    def test_near_right_values(self):
        for shelf in (SHELF, SHELVES[2], TWO_EACH, NEVER[0], NEVER[2]):
            for keeper in shelf.circle.names:
                for helpers in all_helpers(shelf, keeper):
                    self.check_lots(shelf, keeper, helpers, True)

    def test_records_and_numbers(self):
        self.assertIs(shows_mends(SHELF, "d", ("c",), ("lost", 0, "11")), True)
        self.assertIs(shows_mends(SHELF, "d", ("c",), ("lost", 1, "11")), True)
        for value in (("lost", True, "11"), ("lost", False, "11"), ("lost", 2, "11"), ("lost", -1, "11"), ("lost", 0, "10"),
                      ("lost", 0, "00"), ("lost", 0, 11), ("lost", 0, ("1", "1")), ("lost", 0, "110"), ["lost", 0, "11"]):
            self.assertIs(shows_mends(SHELF, "d", ("c",), value), False, value)
        # Who has nothing to tell makes nothing anew, and each piece is lost with each record that it has.
        self.assertIs(shows_mends(SHELF, "a", (), ("lost", 0, "10")), True)
        self.assertIs(shows_mends(SHELF, "a", (), ("lost", 0, "01")), False)
        # One piece can be made anew, the other one cannot.
        both = Shelf("parts x y\nkeeper a x y\nkeeper b y")
        self.check_same(mends(both, "a", ("b",)), ("lost", 0, "10"))
        self.assertIs(shows_mends(both, "a", ("b",), ("lost", 1, "01")), False)
        self.check_same(mends(Shelf("parts x y\nkeeper a y x\nkeeper b y"), "a", ("b",)), ("lost", 1, "10"))

    def test_alike_pieces(self):
        twice = Shelf("parts x y\nkeeper a x+y x+y\nkeeper b x x\nkeeper c y")
        self.check_same(mends(twice, "a", ("c",)), ("lost", 0, "10"))
        for value in itertools.product(((("b", 0), ("c", 0)), (("b", 1), ("c", 0))), repeat=2):
            self.assertIs(shows_mends(twice, "a", ("b", "c"), ("mended", value)), True)
        self.assertIs(shows_mends(twice, "a", ("b", "c"), ("mended", ((("b", 0), ("c", 0)),))), False)
        # Pieces that the keeper itself has are no help: they are lost.
        self.assertIs(shows_mends(twice, "b", ("a", "c"), ("mended", ((("b", 1),), (("b", 0),)))), False)

    def test_wrong_ones(self):
        for call in (mends, lambda shelf, keeper, helpers: shows_mends(shelf, keeper, helpers, ("lost", 0, "10"))):
            self.check_refuses(NoKeeper, NO_KEEPERS, lambda value: call(SHELF, value, ("a",)))
            self.check_refuses(NoKeeper, NO_KEEPERS, lambda value: call(SHELF, value, value))
            self.check_refuses(BadHelpers, NO_HELPERS, lambda value: call(SHELF, "c", value))
            self.check_refuses(BadHelpers, NO_HELPERS, lambda value: call(helpers=value, keeper="c", shelf=SHELF))
        for value in junk():
            if value not in ((), ("a",)):
                self.check_keeps(BadHelpers, value, mends, SHELF, "c", value)


class TestHelping(Checks, unittest.TestCase):
    def test_against_all_lots_of_others(self):
        for shelf in ALL + [SHELVES[3]]:
            for keeper in shelf.circle.names:
                number = first_lost(shelf, keeper, others_of(shelf, keeper))
                if number is not None:
                    self.check_raises(NoHelp, number, helping, shelf, keeper)
                    continue
                every = [lot for lot in all_helpers(shelf, keeper) if first_lost(shelf, keeper, lot) is None]
                self.check_same(helping(shelf=shelf, keeper=keeper), least_lots(shelf.circle.names, every))

    def test_the_first_piece(self):
        shelf = Shelf("parts x y z\nkeeper a x y+z\nkeeper b x z\nkeeper c z")
        self.check_raises(NoHelp, 1, helping, shelf, "a")
        self.check_raises(NoHelp, 0, helping, Shelf("parts x y\nkeeper a x y\nkeeper b x+y"), "a")
        self.check_same(helping(shelf, "b"), (("a", "c"),))

    def test_wrong_keepers(self):
        self.check_refuses(NoKeeper, NO_KEEPERS, lambda value: helping(SHELF, value))
        self.check_refuses(NoKeeper, NO_KEEPERS, lambda value: helping(keeper=value, shelf=SHELF))


class TestMade(Checks, unittest.TestCase):
    def test_all_sums_and_answers(self):
        held = 0
        for shelf in (SHELF, TWO_EACH, NEVER[0]) + tuple(small_shelves())[::5]:
            for keeper in shelf.circle.names:
                others = others_of(shelf, keeper)
                rows = sums_for(shelf, keeper, others)
                for sums in list(itertools.product(*rows))[:12]:
                    needed = {spot[0] for spots in sums for spot in spots}
                    for lot in all_lots(shelf.circle.names):
                        for answers in all_answers(shelf, lot)[::3]:
                            self.check_made(shelf, keeper, sums, answers, needed <= set(lot))
                            held += 1
        self.assertGreater(held, 1000)

    def check_made(self, shelf, keeper, sums, answers, is_enough):
        if not is_enough:
            self.check_keeps(BadAnswers, answers, made, shelf, keeper, sums, answers)
            return
        values = {(name, number): int(sign) for name, row in answers for number, sign in enumerate(row)}
        right = "".join(str(sum(values[spot] for spot in spots) % 2) for spots in sums)
        self.check_same(made(shelf=shelf, keeper=keeper, sums=sums, answers=answers), right)

    def test_true_answers_make_true_pieces(self):
        for shelf in SHELVES[:3] + [FIVE]:
            for keeper in shelf.circle.names:
                others = others_of(shelf, keeper)
                told = mends(shelf, keeper, others)
                if told[0] == "lost":
                    continue
                for record in all_records(shelf):
                    answers = tuple((name, true_answer(shelf, name, record)) for name in others)
                    self.check_same(made(shelf, keeper, told[1], answers), true_answer(shelf, keeper, record))

    def test_torn_answers(self):
        torn = (("a", "1"), ("b", "1"), ("d", "00"))
        self.check_same(made(SHELF, "c", SUMS, torn), "0")
        self.check_same(made(SHELF, "c", ((("d", 0), ("d", 1)),), torn), "0")
        self.check_same(made(SHELF, "c", ((("a", 0), ("d", 1)),), torn), "1")
        # The keeper may have answered itself: what it told has no say.
        self.check_same(made(SHELF, "c", SUMS, (("a", "1"), ("b", "1"), ("c", "1"))), "0")

    def test_what_comes_to_other_parts(self):
        for some, comes in sums_of(SHELF, ("a", "b", "d")):
            if comes == ("x", "y"):
                answers = (("a", "0"), ("b", "0"), ("d", "11"))
                self.check_same(made(SHELF, "c", (some,), answers), str(sum(spot[0] == "d" for spot in some) % 2))
            else:
                value = (some,)
                self.check_keeps(BadSum, value, made, SHELF, "c", value, ())
        for value in ((("c", 0),), (("a", 0), ("b", 0), ("c", 0)), (("b", 0), ("a", 0))):
            held = (value,)
            self.check_keeps(BadSum, held, made, SHELF, "c", held, ANSWERS)
        # Each piece asks for a sum of its own, in sequence.
        for value in ((), SUMS * 2, SUMS[0]):
            self.check_keeps(BadSum, value, made, SHELF, "c", value, ANSWERS)
        right = ((("a", 0),), (("b", 0),))
        self.check_same(made(SHELF, "d", right, (("a", "1"), ("b", "0"))), "10")
        turned = right[::-1]
        self.check_keeps(BadSum, turned, made, SHELF, "d", turned, ANSWERS)
        # A sum with the keeper's own spots is none, though it comes to the parts.
        own = ((("a", 0),), (("d", 1),))
        self.check_keeps(BadSum, own, made, SHELF, "d", own, ANSWERS)

    def test_wrong_ones(self):
        self.check_refuses(NoKeeper, NO_KEEPERS, lambda value: made(SHELF, value, SUMS, ANSWERS))
        self.check_refuses(NoKeeper, NO_KEEPERS, lambda value: made(SHELF, value, value, value))
        for value in NO_SUMS:
            self.check_keeps(BadSum, value, made, SHELF, "c", value, ANSWERS)
            held = (value,)
            self.check_keeps(BadSum, held, made, SHELF, "c", held, ANSWERS)
            self.check_keeps(BadSum, held, made, shelf=SHELF, keeper="c", sums=held, answers=None)
        for value in NO_ANSWERS + [(), (("a", "1"),), (("b", "1"),), (("c", "1"), ("d", "11"))]:
            self.check_keeps(BadAnswers, value, made, SHELF, "c", SUMS, value)
            self.check_keeps(BadAnswers, value, made, answers=value, sums=SUMS, keeper="c", shelf=SHELF)
        for value in ([SUMS[0]], list(SUMS), (list(SUMS[0]),), ((["a", 0], ("b", 0)),), ((("a", False), ("b", 0)),), deep(30)):
            self.check_keeps(BadSum, value, made, SHELF, "c", value, ANSWERS)


if __name__ == "__main__":
    unittest.main()
