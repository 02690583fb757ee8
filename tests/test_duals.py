"""Section 6: duals."""

import itertools
import unittest

from helper import Checks, RING, all_families, all_lots, has_family, least_lots, one_of
from lotkeepers.duals import dual, meet, most_falls, shows_meet, shows_most_falls
from lotkeepers.errors import BadFamily, Unmet
from test_families import NO_FAMILIES, PAIRS, SIX, THREE, TWO, WANTS_NOTHING


def touches(lot, other):
    return bool(set(lot) & set(other))


def crossing(names, family):
    """All lots that meet each lot of the family."""
    return [lot for lot in all_lots(names) if all(touches(lot, row) for row in family)]


def families(names):
    return [family for family in all_families(names) if family != WANTS_NOTHING]


class TestDual(Checks, unittest.TestCase):
    def test_small_circles(self):
        for circle in (TWO, THREE, RING):
            for family in families(circle.names):
                made = dual(circle=circle, family=family)
                self.check_same(made, least_lots(circle.names, crossing(circle.names, family)))
                self.check_same(dual(circle, made), family)

    def test_six_keepers(self):
        threes = tuple(itertools.combinations(SIX.names, 3))
        self.check_same(dual(SIX, threes), tuple(itertools.combinations(SIX.names, 4)))
        self.check_same(dual(SIX, (SIX.names,)), tuple((name,) for name in SIX.names))

    def test_wrong_ones(self):
        for call in (dual, most_falls, lambda circle, family: shows_most_falls(circle, family, (0, ("a",)))):
            self.check_refuses(BadFamily, NO_FAMILIES, lambda value: call(RING, value))
            self.check_refuses(Unmet, [WANTS_NOTHING, tuple([()])], lambda value: call(RING, value))


class TestMeet(Checks, unittest.TestCase):
    def right_ones(self, one, other):
        apart = [("apart", number, place) for number, lot in enumerate(one) for place, row in enumerate(other)
                 if not touches(lot, row)]
        return apart or [("meet",)]

    def test_small_circles(self):
        for circle, step in ((TWO, 1), (THREE, 1), (RING, 13)):
            every = all_families(circle.names)
            for one in every[::step]:
                for other in every[::step]:
                    rights = self.right_ones(one, other)
                    self.assertTrue(one_of(rights)(meet(circle=circle, one=one, other=other)))
                    self.check_shows(shows_meet, (circle, one, other), one_of(rights), rights[:2])
                    for right in rights:
                        self.assertIs(shows_meet(circle=circle, one=one, other=other, value=right), True)

    def test_nothing_meets_nothing(self):
        self.check_same(meet(RING, WANTS_NOTHING, WANTS_NOTHING), ("apart", 0, 0))
        self.assertEqual(meet(RING, PAIRS, WANTS_NOTHING)[0], "apart")
        self.assertIs(shows_meet(RING, PAIRS, WANTS_NOTHING, ("apart", 2, 0)), True)
        self.assertIs(shows_meet(RING, PAIRS, WANTS_NOTHING, ("apart", 2, False)), False)
        self.assertIs(shows_meet(RING, PAIRS, WANTS_NOTHING, ("apart", True, 0)), False)

    def test_wrong_ones(self):
        for call in (meet, lambda *some: shows_meet(*some, ("meet",))):
            self.check_refuses(BadFamily, NO_FAMILIES, lambda value: call(RING, value, PAIRS))
            self.check_refuses(BadFamily, NO_FAMILIES, lambda value: call(RING, PAIRS, value))
            for other in NO_FAMILIES[::5]:
                self.check_refuses(BadFamily, NO_FAMILIES, lambda value: call(RING, value, other))


class TestMostFalls(Checks, unittest.TestCase):
    def right_ones(self, names, family):
        """By going through all lots that may fall."""
        number = 0
        while all(any(not touches(row, lot) for row in family) for lot in itertools.combinations(names, number + 1)):
            number += 1
        return [(number, lot) for lot in crossing(names, family) if len(lot) == number + 1]

    def test_small_circles(self):
        for circle in (TWO, THREE, RING):
            for family in families(circle.names):
                rights = self.right_ones(circle.names, family)
                self.assertTrue(one_of(rights)(most_falls(circle=circle, family=family)))
                for right in rights:
                    self.assertIs(shows_most_falls(circle=circle, family=family, value=right), True)
                self.check_shows(shows_most_falls, (circle, family), one_of(rights), rights[:2])

    def test_six_keepers(self):
        self.assertEqual(most_falls(SIX, tuple((name,) for name in SIX.names)), (5, SIX.names))
        for family in ((SIX.names,), tuple(itertools.combinations(SIX.names, 2)), (("f", "e"), ("d", "c"), ("b", "a"))):
            rights = self.right_ones(SIX.names, family)
            self.assertTrue(one_of(rights)(most_falls(SIX, family)))
            self.check_shows(shows_most_falls, (SIX, family), one_of(rights), rights)

    def test_truths_are_no_numbers(self):
        family = (("a", "b"),)
        self.assertIs(shows_most_falls(RING, family, (0, ("a",))), True)
        self.assertIs(shows_most_falls(RING, family, (False, ("a",))), False)
        self.assertIs(shows_most_falls(RING, PAIRS, (1, ("a", "c"))), True)
        self.assertIs(shows_most_falls(RING, PAIRS, (True, ("a", "c"))), False)
        self.assertIs(shows_most_falls(RING, PAIRS, (1, ("a", "b", "c"))), False)

    def test_what_has_the_dual(self):
        """What all lots of the dual leave, the family has not: fallen keepers told by lots that have it."""
        for family in families(RING.names):
            number, lot = most_falls(RING, family)
            self.assertFalse(has_family(family, RING.rest(lot)))
            for fallen in itertools.combinations(RING.names, number):
                self.assertTrue(has_family(family, RING.rest(fallen)))


if __name__ == "__main__":
    unittest.main()
