"""Section 26: keepers that lie."""

import functools
import itertools
import unittest

from helper import Checks, all_lots, alike, deep, inside, junk, least_lots, near, one_of
from lotkeepers.errors import BadAnswers, BadBound, BadLot, NeverSure
from lotkeepers.lies import believed, nearest, overruled, overruling, shows_overruled
from lotkeepers.shelves import Shelf
from test_answers import NO_ANSWERS, all_answers, true_answer
from test_bringing import NEVER, is_back, small_shelves
from test_costs import without
from test_families import NO_LOT
from test_shelves import SHELF, SHELVES, all_records

KEEP = Shelf("parts x\nkeeper a x\nkeeper b x\nkeeper c x\nkeeper d x")
SIX_KEEP = Shelf("parts x\n" + "\n".join(f"keeper {name} x" for name in "fedcba"))
TWO_EACH = Shelf("parts x y\n" + "\n".join(f"keeper {name} x y" for name in "cab"))
FIVE = Shelf("parts x y\nkeeper e x\nkeeper a y\nkeeper d x+y\nkeeper b x\nkeeper c y")
SMALL_ONES = list(small_shelves())[::4] + [KEEP, SHELF, TWO_EACH] + NEVER[:1]
BOUNDS = range(4)
NO_BOUNDS = [-1, 4, 5, None, True, False, "0", "1", "", (), (1,), [1], {}, deep(30), 999999999, KEEP, 1 << 20]


def liars_by(shelf, answers, record):
    """Those who lied if this is the record."""
    return tuple(keeper for keeper, values in answers if values != true_answer(shelf, keeper, record))


def right_believed(shelf, answers, bound):
    return tuple(record for record in all_records(shelf) if len(liars_by(shelf, answers, record)) <= bound)


def sure_by_lies(shelf, lot, bound):
    """Against all records and all lies: whatever is answered, one record at most is left."""
    return all(len(right_believed(shelf, answers, bound)) < 2 for answers in all_answers(shelf, lot))


@functools.lru_cache(None)
def sure_ones(text, bound):
    """All lots that are sure: less any twice so many keepers they bring back."""
    shelf = Shelf(text)
    names = shelf.circle.names
    return [lot for lot in all_lots(names) if all(is_back(shelf, tuple(name for name in lot if name not in row))
                                                  for row in all_lots(lot) if len(row) <= 2 * bound)]


def is_sure(shelf, lot, bound):
    return lot in sure_ones(shelf.text, bound)


def right_opens(shelf, lot, bound):
    """All right results of a lot that is not sure: two unlike records, and few enough that answer them otherwise."""
    rights = []
    for record, other in itertools.permutations(all_records(shelf), 2):
        unlike = [name for name in lot if true_answer(shelf, name, record) != true_answer(shelf, name, other)]
        rights += [("open", record, other, row) for row in all_lots(lot) if len(row) <= 2 * bound and inside(unlike, row)]
    return rights


class TestOverruled(Checks, unittest.TestCase):
    def check_lot(self, shelf, lot, bound):
        rights = right_opens(shelf, lot, bound) or [("sure",)]
        self.assertEqual(rights == [("sure",)], is_sure(shelf, lot, bound), (shelf.text, lot, bound))
        made = overruled(shelf=shelf, lot=lot, bound=bound)
        self.assertTrue(one_of(rights)(made), (shelf.text, lot, bound, made))
        for value in rights[:60] + rights[-1:]:
            self.assertIs(shows_overruled(shelf=shelf, lot=lot, bound=bound, value=value), True)
        self.assertIs(shows_overruled(shelf, lot, bound, ("sure",)), rights == [("sure",)])
        return rights

    def test_against_all_records_and_all_lies(self):
        kinds = []
        for shelf in SMALL_ONES:
            for lot in all_lots(shelf.circle.names):
                for bound in BOUNDS:
                    kinds.append(self.check_lot(shelf, lot, bound)[0][0])
                    self.assertEqual(kinds[-1] == "sure", sure_by_lies(shelf, lot, bound), (shelf.text, lot, bound))
        self.assertGreater(min(kinds.count("sure"), kinds.count("open")), 30)

    def test_lies_told_one_by_one(self):
        """Of each record, whoever of the lot lies, and whatever values they tell, no other record is believed."""
        for shelf, lot, bound in ((KEEP, ("a", "b", "c"), 1), (KEEP, ("a", "b", "c", "d"), 1), (FIVE, FIVE.circle.names, 1),
                                  (FIVE, ("e", "a", "d", "b"), 1)):
            sure = len(lot) != 4 or shelf is KEEP
            self.assertEqual(overruled(shelf, lot, bound) == ("sure",), sure)
            found = []
            for record in all_records(shelf):
                for answers in all_answers(shelf, lot):
                    if len(liars_by(shelf, answers, record)) <= bound:
                        found.append(right_believed(shelf, answers, bound) == (record,))
            self.assertEqual(all(found), sure)

    def test_more_keepers(self):
        for shelf in (SIX_KEEP, FIVE, SHELVES[3]):
            for lot in all_lots(shelf.circle.names)[::1 if shelf is not SHELVES[3] else 9]:
                for bound in BOUNDS if shelf is not SHELVES[3] else (0, 1):
                    self.check_lot(shelf, lot, bound)

    def test_near_right_values(self):
        for shelf, lot, bound in ((KEEP, ("a", "b"), 1), (KEEP, ("a", "b", "c"), 1), (KEEP, (), 0), (SHELF, ("a", "c", "d"), 1),
                                  (SHELF, ("a", "b"), 0),
                                  (TWO_EACH, ("c", "a", "b"), 2), (SHELF, ("c",), 0), (FIVE, FIVE.circle.names, 1)):
            rights = self.check_lot(shelf, lot, bound)
            self.check_shows(shows_overruled, (shelf, lot, bound), one_of(rights), rights[:4] + rights[-2:])

    def test_all_rows(self):
        """All pairs of records, with all lots, also of keepers that are not of the lot."""
        for shelf, lot, bound in ((KEEP, ("a", "b"), 1), (SHELF, ("a", "b", "c"), 1), (SHELF, ("d",), 0),
                                  (KEEP, ("a", "b", "c"), 1),
                                  (KEEP, ("a",), 1), (SHELF, ("b",), 2)):
            rights = right_opens(shelf, lot, bound)
            for record, other in itertools.product(all_records(shelf), repeat=2):
                for row in all_lots(shelf.circle.names):
                    value = ("open", record, other, row)
                    self.assertIs(shows_overruled(shelf, lot, bound, value), value in rights, value)

    def test_bound_nought_is_bringing_back(self):
        for shelf in SMALL_ONES + NEVER:
            for lot in all_lots(shelf.circle.names):
                self.assertEqual(overruled(shelf, lot, 0) == ("sure",), is_back(shelf, lot))

    def test_wrong_arguments(self):
        for call in (overruled, lambda shelf, lot, bound: shows_overruled(shelf, lot, bound, ("sure",))):
            self.check_refuses(BadLot, NO_LOT, lambda value: call(SHELF, value, 1))
            self.check_refuses(BadBound, NO_BOUNDS, lambda value: call(SHELF, ("a",), value))
            self.check_refuses(BadBound, NO_BOUNDS, lambda value: call(bound=value, lot=(), shelf=SHELF))
            for bound in NO_BOUNDS:
                self.check_refuses(BadLot, NO_LOT, lambda value: call(SHELF, value, bound))


class TestOverruling(Checks, unittest.TestCase):
    def test_least_sure_lots(self):
        never = 0
        for shelf in SMALL_ONES + NEVER + [SIX_KEEP, FIVE] + SHELVES:
            for bound in BOUNDS:
                right = least_lots(shelf.circle.names, sure_ones(shelf.text, bound))
                if right:
                    self.check_same(overruling(shelf=shelf, bound=bound), right)
                else:
                    never += 1
                    self.check_raises(NeverSure, bound, overruling, shelf, bound)
        self.assertGreater(never, 20)

    def test_ends(self):
        self.check_same(overruling(SIX_KEEP, 2), tuple(itertools.combinations("fedcba", 5)))
        self.check_raises(NeverSure, 3, overruling, SIX_KEEP, 3)
        self.check_same(overruling(SIX_KEEP, 0), tuple((name,) for name in "fedcba"))
        for bound in BOUNDS:
            self.check_raises(NeverSure, bound, overruling, NEVER[0], bound)

    def test_wrong_bounds(self):
        for shelf in (KEEP, NEVER[0]):
            self.check_refuses(BadBound, NO_BOUNDS, lambda value: overruling(shelf, value))
            self.check_refuses(BadBound, NO_BOUNDS, lambda value: overruling(bound=value, shelf=shelf))
        for value in junk():
            if not any(alike(value, bound) for bound in BOUNDS):
                self.check_keeps(BadBound, value, overruling, KEEP, value)


class TestBelieved(Checks, unittest.TestCase):
    def test_against_all_records(self):
        for shelf in SMALL_ONES:
            for lot in all_lots(shelf.circle.names):
                for answers in all_answers(shelf, lot):
                    counts = {record: len(liars_by(shelf, answers, record)) for record in all_records(shelf)}
                    for bound in BOUNDS:
                        right = tuple(record for record in sorted(counts) if counts[record] <= bound)
                        self.check_same(believed(shelf=shelf, answers=answers, bound=bound), right)
                    least = min(counts.values())
                    right = (least, tuple(record for record in sorted(counts) if counts[record] == least))
                    self.check_same(nearest(shelf=shelf, answers=answers), right)

    def test_nobody_at_all(self):
        for shelf in SHELVES + NEVER:
            every = tuple(all_records(shelf))
            self.check_same(nearest(shelf, ()), (0, every))
            for bound in BOUNDS:
                self.check_same(believed(shelf, (), bound), every)

    def test_answers_of_nobody(self):
        # No record gives these answers; each of the three may have lied.
        answers = (("a", "1"), ("b", "1"), ("c", "1"))
        self.check_same(believed(SHELF, answers, 0), ())
        self.check_same(believed(SHELF, answers, 1), ("01", "10", "11"))
        self.check_same(nearest(SHELF, answers), (1, ("01", "10", "11")))
        self.check_same(nearest(SHELF, answers + (("d", "10"),)), (1, ("10",)))

    def test_a_keeper_with_two_pieces_lies_once(self):
        self.check_same(nearest(TWO_EACH, (("c", "00"), ("a", "11"))), (1, ("00", "11")))
        self.check_same(believed(TWO_EACH, (("c", "00"), ("a", "11"), ("b", "10")), 2), ("00", "10", "11"))

    def test_wrong_arguments(self):
        self.check_refuses(BadAnswers, NO_ANSWERS, lambda value: believed(SHELF, value, 1))
        self.check_refuses(BadAnswers, NO_ANSWERS, lambda value: nearest(SHELF, value))
        self.check_refuses(BadAnswers, NO_ANSWERS, lambda value: nearest(answers=value, shelf=SHELF))
        self.check_refuses(BadBound, NO_BOUNDS, lambda value: believed(SHELF, (("a", "1"),), value))
        self.check_refuses(BadBound, NO_BOUNDS, lambda value: believed(bound=value, answers=(), shelf=SHELF))
        for bound in NO_BOUNDS:
            self.check_refuses(BadAnswers, NO_ANSWERS[::4], lambda value: believed(SHELF, value, bound))

    def test_near_answers(self):
        answers = (("a", "1"), ("d", "10"))
        rights = one_of([row for lot in all_lots("abcd") for row in all_answers(SHELF, lot)])
        for value in near(answers) + junk():
            if rights(value):
                self.check_same(believed(SHELF, value, 1), right_believed(SHELF, value, 1))
            else:
                self.check_keeps(BadAnswers, value, believed, SHELF, value, 1)
                self.check_keeps(BadAnswers, value, nearest, SHELF, value)


class TestMore(Checks, unittest.TestCase):
    def test_fewer_lies_and_a_keeper_more(self):
        for shelf in SMALL_ONES + [FIVE, SIX_KEEP]:
            for bound in BOUNDS:
                for lot in all_lots(shelf.circle.names):
                    if overruled(shelf, lot, bound) != ("sure",):
                        continue
                    for fewer in range(bound):
                        self.check_same(overruled(shelf, lot, fewer), ("sure",))
                    for name in shelf.circle.rest(lot):
                        self.check_same(overruled(shelf, shelf.circle.lot(lot + (name,)), bound), ("sure",))
                    if bound:
                        for name in lot:
                            for other in without(lot, name):
                                self.check_same(overruled(shelf, without(without(lot, name), other), bound - 1), ("sure",))


if __name__ == "__main__":
    unittest.main()
