"""Section 5: families of lots."""

import itertools
import random
import unittest

from helper import Checks, RING, all_families, all_lots, deep, has_family, inside, least_lots, one_of
from lotkeepers.circles import Circle
from lotkeepers.errors import BadFamily, BadLot, BadLots
from lotkeepers.families import has, joined, least, many, shared, shows_has, shows_within, within

TWO = Circle(("b", "a"))
THREE = Circle(("c", "a", "b"))
SIX = Circle(("f", "e", "d", "c", "b", "a"))
PAIRS = (("a", "b"), ("a", "c"), ("b", "c"))
WANTS_NOTHING = ((),)

NO_LOTS = [
    (), [], None, True, 0, 1, "a", "", "abc", {}, {("a",): 1}, ("a",), ("a", "b"), (("a",), ("a",)), ((), ()), [("a",)], (["a"],),
    (("a",), ["b"]), (("b", "a"),), (("a", "a"),), (("z",),), (("a",), ("z",)), (("a",), None), (("a",), 1), ((True,),),
    ((("a",),),), (("a",), "b"), (("a",), (1,)), (["a"], ["a"]), deep(30), (deep(30),), RING, (RING,),
]

NO_FAMILIES = NO_LOTS + [
    (("b",), ("a",)), (("a", "b"), ("c",)), (("a", "c"), ("a", "b")), (("a",), ("a", "b")), ((), ("a",)), (("a",), ()),
    (("a", "b"), ("a",)), (("a",), ("b", "c"), ("a", "b", "c")), (("a",), ("c",), ("b",)),
]

NO_LOT = [("b", "a"), ("a", "a"), ("z",), ["a"], "a", None, True, 0, {}, (("a",),), (1,), deep(30)]


class TestLeast(Checks, unittest.TestCase):
    def test_all_lots_of_three_keepers(self):
        every = all_lots(THREE.names)
        for number in range(1, 2 ** len(every)):
            some = tuple(lot for place, lot in enumerate(every) if number >> place & 1)
            right = least_lots(THREE.names, some)
            self.check_same(least(THREE, some), right)
            self.check_same(least(circle=THREE, some=some[::-1]), right)

    def test_six_keepers(self):
        draw = random.Random(5)
        for _ in range(50):
            some = tuple(draw.sample(all_lots(SIX.names), draw.randint(1, 30)))
            self.check_same(least(SIX, some), least_lots(SIX.names, some))
        self.check_same(least(SIX, tuple(all_lots(SIX.names))), WANTS_NOTHING)
        self.check_same(least(SIX, (SIX.names,)), (SIX.names,))

    def test_wrong_ones(self):
        self.check_refuses(BadLots, NO_LOTS, lambda value: least(RING, value))
        self.check_refuses(BadLots, [(("c",),), (("a", "b"),)], lambda value: least(TWO, value))


class TestHas(Checks, unittest.TestCase):
    def right_ones(self, family, lot):
        if has_family(family, lot):
            return [("has", number) for number, row in enumerate(family) if inside(row, lot)]
        rows = [[name for name in row if name not in lot] for row in family]
        return [("lacks", row) for row in itertools.product(*rows)]

    def test_all_families_of_three_keepers(self):
        for family in all_families(THREE.names):
            for lot in all_lots(THREE.names):
                rights = self.right_ones(family, lot)
                self.assertTrue(one_of(rights)(has(THREE, family, lot)), (family, lot))
                self.check_shows(shows_has, (THREE, family, lot), one_of(rights), rights)

    def test_two_and_six_keepers(self):
        self.check_same(has(TWO, WANTS_NOTHING, ()), ("has", 0))
        self.check_same(has(TWO, (("b",), ("a",)), ()), ("lacks", ("b", "a")))
        family = (("f",), ("e", "a"), ("d", "c", "b"))
        for lot in all_lots(SIX.names):
            rights = self.right_ones(family, lot)
            self.assertTrue(one_of(rights)(has(circle=SIX, family=family, lot=lot)))
            for right in rights:
                self.assertIs(shows_has(circle=SIX, family=family, lot=lot, value=right), True)
        self.check_same(has(SIX, (SIX.names,), SIX.names), ("has", 0))

    def test_truths_are_no_numbers(self):
        self.assertIs(shows_has(RING, PAIRS, ("a", "b", "c"), ("has", 1)), True)
        self.assertIs(shows_has(RING, PAIRS, ("a", "b", "c"), ("has", True)), False)
        self.assertIs(shows_has(RING, PAIRS, ("a", "b", "c"), ("has", -1)), False)
        self.assertIs(shows_has(RING, (("a",),), ("a",), ("has", False)), False)

    def test_wrong_ones(self):
        for call in (has, lambda *some: shows_has(*some, ("has", 0))):
            self.check_refuses(BadFamily, NO_FAMILIES, lambda value: call(RING, value, ("a",)))
            self.check_refuses(BadFamily, NO_FAMILIES, lambda value: call(RING, value, ("b", "a")))
            self.check_refuses(BadLot, NO_LOT, lambda value: call(RING, PAIRS, value))


class TestWithin(Checks, unittest.TestCase):
    def right_ones(self, names, one, other):
        parts = [lot for lot in all_lots(names) if has_family(one, lot) and not has_family(other, lot)]
        if parts:
            return [("parts", lot) for lot in parts]
        rows = [[number for number, row in enumerate(other) if inside(row, lot)] for lot in one]
        return [("within", row) for row in itertools.product(*rows)]

    def test_all_families_of_three_keepers(self):
        every = all_families(THREE.names)
        for one in every:
            for other in every:
                rights = self.right_ones(THREE.names, one, other)
                self.assertTrue(one_of(rights)(within(THREE, one, other)), (one, other))
                self.check_shows(shows_within, (THREE, one, other), one_of(rights), rights[:3])
                for right in rights:
                    self.assertIs(shows_within(circle=THREE, one=one, other=other, value=right), True)

    def test_families_of_four_keepers(self):
        every = all_families(RING.names)
        for one in every[::7]:
            for other in every[::5]:
                rights = self.right_ones(RING.names, one, other)
                self.assertTrue(one_of(rights)(within(circle=RING, one=one, other=other)))

    def test_six_keepers(self):
        one, other = (("f", "e", "d"), ("c", "b", "a")), (("f", "e"), ("d", "a"), ("c", "b"))
        self.check_same(within(SIX, one, other), ("within", (0, 2)))
        rights = self.right_ones(SIX.names, other, one)
        self.check_shows(shows_within, (SIX, other, one), one_of(rights), rights)

    def test_truths_are_no_numbers(self):
        self.assertIs(shows_within(TWO, (("a",),), (("b",), ("a",)), ("within", (1,))), True)
        self.assertIs(shows_within(TWO, (("a",),), (("b",), ("a",)), ("within", (True,))), False)
        self.assertIs(shows_within(TWO, (("a",),), (("b",), ("a",)), ("within", [1])), False)

    def test_wrong_ones(self):
        for call in (within, joined, shared, lambda *some: shows_within(*some, ("within", ()))):
            self.check_refuses(BadFamily, NO_FAMILIES, lambda value: call(RING, value, PAIRS))
            self.check_refuses(BadFamily, NO_FAMILIES, lambda value: call(RING, PAIRS, value))
            for other in NO_FAMILIES[::5]:
                self.check_refuses(BadFamily, NO_FAMILIES, lambda value: call(RING, value, other))


class TestJoinedAndShared(Checks, unittest.TestCase):
    def check_pair(self, circle, one, other):
        every = all_lots(circle.names)
        of_one = [lot for lot in every if has_family(one, lot) or has_family(other, lot)]
        self.check_same(joined(circle=circle, one=one, other=other), least_lots(circle.names, of_one))
        of_both = [lot for lot in every if has_family(one, lot) and has_family(other, lot)]
        self.check_same(shared(circle=circle, one=one, other=other), least_lots(circle.names, of_both))

    def test_small_circles(self):
        for circle, step in ((TWO, 1), (THREE, 1), (RING, 6)):
            every = all_families(circle.names)
            for one in every[::step]:
                for other in every[::step]:
                    self.check_pair(circle, one, other)

    def test_six_keepers(self):
        self.check_pair(SIX, (("f", "e"), ("d", "c"), ("b", "a")), (("f", "a"), ("e", "c", "b")))
        self.check_pair(SIX, WANTS_NOTHING, (SIX.names,))


class TestMany(Checks, unittest.TestCase):
    def test_small_circles(self):
        for circle in (TWO, THREE, RING):
            for family in all_families(circle.names):
                held = [len(lot) for lot in all_lots(circle.names) if has_family(family, lot)]
                self.check_same(many(circle, family), tuple(held.count(size) for size in range(len(circle) + 1)))

    def test_ends(self):
        self.check_same(many(circle=SIX, family=WANTS_NOTHING), (1, 6, 15, 20, 15, 6, 1))
        self.check_same(many(SIX, (SIX.names,)), (0, 0, 0, 0, 0, 0, 1))
        self.check_same(many(TWO, (("b",),)), (0, 1, 1))

    def test_wrong_ones(self):
        self.check_refuses(BadFamily, NO_FAMILIES, lambda value: many(RING, value))
        self.check_refuses(BadFamily, [(("a",), ("b",))], lambda value: many(TWO, value))


if __name__ == "__main__":
    unittest.main()
