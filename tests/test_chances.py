"""Section 7: chances."""

import itertools
import unittest
from fractions import Fraction

from helper import Checks, RING, all_families, all_lots, alike, deep, has_family
from lotkeepers.chances import better, chance, shows_better
from lotkeepers.circles import Circle
from lotkeepers.errors import BadChance, BadFamily
from test_families import NO_FAMILIES, PAIRS, SIX, THREE, TWO, WANTS_NOTHING

CHANCES = [(top, low) for low in range(1, 100) for top in range(low + 1)]

NO_CHANCES = [
    (), (1,), (1, 2, 3), [1, 2], (2, 1), (-1, 2), (1, 0), (0, 0), (1, 100), (100, 100), (1, -2), (True, 2), (1, True), (False, 1),
    (True, True), ("1", 2), (1, "2"), "12", (1, None), None, 0, 1, True, {}, {1: 2}, ((1, 2),), ((1,), 2), ([1], [2]), (0, False),
    (999999999, 999999999), (0, 999999999), deep(30), ("a", "b"), WANTS_NOTHING,
]


def by_lots(names, family, each):
    """The chance, summed over all lots that have the family."""
    up = Fraction(*each)
    held = Fraction(0)
    for lot in all_lots(names):
        if has_family(family, lot):
            held += up ** len(lot) * (1 - up) ** (len(names) - len(lot))
    return held


def weights(names, family):
    """For each chance an integer as great as the chance of the family, by the same measure for all families."""
    sizes = [len(lot) for lot in all_lots(names) if has_family(family, lot)]
    counts = [(size, sizes.count(size)) for size in range(len(names) + 1)]
    return [sum(count * top ** size * (low - top) ** (len(names) - size) for size, count in counts) for top, low in CHANCES]


class TestChance(Checks, unittest.TestCase):
    def test_small_circles(self):
        for circle, step in ((TWO, 1), (THREE, 2), (RING, 20)):
            for family in all_families(circle.names)[::step]:
                for each in CHANCES[:20] + CHANCES[20::701]:
                    right = by_lots(circle.names, family, each)
                    made = chance(circle=circle, family=family, each=each)
                    self.check_same(made, (right.numerator, right.denominator))

    def test_ends(self):
        for each in ((0, 1), (0, 7), (0, 99)):
            self.check_same(chance(RING, PAIRS, each), (0, 1))
            self.check_same(chance(RING, WANTS_NOTHING, each), (1, 1))
        for each in ((1, 1), (7, 7), (99, 99)):
            self.check_same(chance(RING, PAIRS, each), (1, 1))
            self.check_same(chance(SIX, (SIX.names,), each), (1, 1))
        self.check_same(chance(SIX, (SIX.names,), (98, 99)), (98 ** 6, 99 ** 6))
        self.check_same(chance(SIX, (("a",),), (2, 98)), (1, 49))
        self.check_same(chance(TWO, WANTS_NOTHING, (3, 4)), (1, 1))

    def test_wrong_ones(self):
        self.check_refuses(BadFamily, NO_FAMILIES, lambda value: chance(RING, value, (1, 2)))
        self.check_refuses(BadChance, NO_CHANCES, lambda value: chance(RING, PAIRS, value))
        for each in NO_CHANCES[::6]:
            self.check_refuses(BadFamily, NO_FAMILIES, lambda value: chance(RING, value, each))


class TestBetter(Checks, unittest.TestCase):
    def check_pair(self, circle, one, other, first, second):
        """First and second are the weights of one and of other."""
        more = [each for each, a, b in zip(CHANCES, first, second) if a > b]
        less = [each for each, a, b in zip(CHANCES, first, second) if a < b]
        made = better(circle=circle, one=one, other=other)
        for word in ("alike", "one", "other"):
            right = word == ("one" if more else "other" if less else "alike") and not (more and less)
            self.assertIs(shows_better(circle=circle, one=one, other=other, value=(word,)), right)
            self.assertIs(alike(made, (word,)), right)
        if not more or not less:
            return
        self.assertEqual((made[0], len(made)), ("hangs", 3))
        self.assertTrue(made[1] in more and made[2] in less and alike(made, (made[0], tuple(made[1]), tuple(made[2]))))
        # Texts of values tell lists from tuples, and truths from integers.
        texts_of_more, texts_of_less = {repr(each) for each in more}, {repr(each) for each in less}
        held = (more[0], more[-1], less[0], less[-1], (0, 1), (1, 1), (2, 4), (50, 99))
        for one_each in held + tuple(NO_CHANCES[:12]):
            for each in held + tuple(NO_CHANCES[12:24]):
                right = repr(one_each) in texts_of_more and repr(each) in texts_of_less
                self.assertIs(shows_better(circle, one, other, ("hangs", one_each, each)), right)

    def test_two_and_three_keepers(self):
        for circle in (TWO, THREE):
            every = all_families(circle.names)
            held = [weights(circle.names, family) for family in every]
            for one, first in zip(every, held):
                for other, second in zip(every, held):
                    self.check_pair(circle, one, other, first, second)

    def test_six_keepers(self):
        wide = (("f", "e"), ("d", "c"), ("b", "a"))
        every = [wide, (("a",),), (("f", "e", "d"), ("c", "b", "a")), (SIX.names,), WANTS_NOTHING, (("b",),)]
        held = [weights(SIX.names, family) for family in every]
        for one, first in zip(every, held):
            for other, second in zip(every, held):
                self.check_pair(SIX, one, other, first, second)

    def test_four_keepers(self):
        met = set()
        held = {family: weights(RING.names, family) for family in all_families(RING.names)[::8]}
        for one in held:
            for other in held:
                met.add(better(RING, one, other)[0])
                if better(RING, one, other)[0] != "hangs":
                    self.check_pair(RING, one, other, held[one], held[other])
        self.assertEqual(met, {"alike", "one", "other", "hangs"})

    def test_fewer_lots_of_three_yet_never_less(self):
        five = Circle(("a", "b", "c", "d", "e"))
        one = (("b", "e"), ("a", "b", "c", "d"), ("a", "c", "d", "e"))
        other = (("a", "d", "e"), ("b", "c", "d"), ("b", "d", "e"), ("c", "d", "e"))
        held = weights(five.names, one), weights(five.names, other)
        self.check_pair(five, one, other, held[0], held[1])
        self.check_pair(five, other, one, held[1], held[0])
        self.check_same(better(five, one, other), ("one",))

    def test_hardly_ever_greater(self):
        """Greater above 16 in 17 alone."""
        one = tuple(itertools.combinations(SIX.names, 4))
        other = tuple(lot for lot in itertools.combinations(SIX.names, 3) if "e" in lot or "f" in lot)
        held = weights(SIX.names, one), weights(SIX.names, other)
        self.check_pair(SIX, one, other, held[0], held[1])
        self.check_pair(SIX, other, one, held[1], held[0])
        self.assertEqual(better(SIX, one, other)[0], "hangs")
        self.assertIs(shows_better(SIX, one, other, ("hangs", (98, 99), (15, 16))), True)
        self.assertIs(shows_better(SIX, one, other, ("hangs", (17, 18), (15, 16))), True)
        self.assertIs(shows_better(SIX, one, other, ("hangs", (16, 17), (15, 16))), False)
        self.assertIs(shows_better(SIX, one, other, ("hangs", (17, 18), (16, 17))), False)

    def test_near_right_values(self):
        def right(value):
            if not isinstance(value, tuple) or len(value) != 3 or value[0] != "hangs":
                return False
            if not all(any(alike(each, row) for row in CHANCES) for each in value[1:]):
                return False
            gain = [by_lots(RING.names, (("d",),), each) - by_lots(RING.names, PAIRS, each) for each in value[1:]]
            return gain[0] > 0 > gain[1]
        self.check_shows(shows_better, (RING, (("d",),), PAIRS), right, [("hangs", (1, 3), (2, 3)), ("hangs", (2, 6), (66, 99))])
        for one, other, word in ((PAIRS, PAIRS, "alike"), (PAIRS, (("a", "b"),), "one"), ((("a", "b"),), PAIRS, "other")):
            self.check_shows(shows_better, (RING, one, other), lambda value: alike(value, (word,)), [(word,)])

    def test_wrong_ones(self):
        for call in (better, lambda *some: shows_better(*some, ("alike",))):
            self.check_refuses(BadFamily, NO_FAMILIES, lambda value: call(RING, value, PAIRS))
            self.check_refuses(BadFamily, NO_FAMILIES, lambda value: call(RING, PAIRS, value))
            for other in NO_FAMILIES[::5]:
                self.check_refuses(BadFamily, NO_FAMILIES, lambda value: call(RING, value, other))


if __name__ == "__main__":
    unittest.main()
