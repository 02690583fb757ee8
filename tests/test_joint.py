"""Section 35: stores of both."""

import itertools
import random
import unittest

from helper import Checks, all_lots, inside, junk, least_lots
from lotkeepers.errors import OtherShelf, TooMany, Unsound
from lotkeepers.joint import by_joint, joint
from lotkeepers.leading import across, copied, led
from lotkeepers.shelves import Shelf
from lotkeepers.sound import shows_sound, sound
from lotkeepers.stores import Store, store_of
from test_bringing import small_shelves
from test_leading import FIRST, NO_STORES, SECOND, THIRD, drawn_step, drawn_store, is_across
from test_lies import SIX_KEEP
from test_shelves import SHELF, SHELVES
from test_sound import SMALL, is_sound
from test_stores import FULL, STORE


def lots_of_both(names, one, other):
    """By going through all lots."""
    every = [lot for lot in all_lots(names) if any(inside(row, lot) for row in one) and any(inside(row, lot) for row in other)]
    return least_lots(names, every)


def drawn_pairs(many, seed=35):
    draw = random.Random(seed)
    shelves = list(small_shelves())[::4] + [SHELF] * 12 + [SHELVES[3]] * 2
    for number in range(many):
        shelf = draw.choice(shelves)
        if number % 3 == 0:
            yield drawn_step(draw, SIX_KEEP), drawn_step(draw, SIX_KEEP)
        else:
            yield drawn_store(draw, shelf), drawn_store(draw, shelf)


class TestJoint(Checks, unittest.TestCase):
    def check_pair(self, one, other):
        names = one.shelf.circle.names
        writes, asks = [lots_of_both(names, *some) for some in ((one.writes, other.writes), (one.asks, other.asks))]
        if len(writes) > 8 or len(asks) > 8:
            self.check_raises(TooMany, 8, joint, one, other)
            return None
        made = joint(one=one, other=other)
        self.check_same((made.writes, made.asks, made.shelf.text), (writes, asks, one.shelf.text))
        self.assertIsInstance(made, Store)
        self.assertEqual(joint(other, one), made)
        return made

    def test_drawn_stores(self):
        held = 0
        for one, other in drawn_pairs(300):
            made = self.check_pair(one, other)
            if is_sound(one) and is_sound(other):
                held += 1
                self.assertTrue(is_sound(made))
                for store in (one, other):
                    self.assertTrue(is_across(store, made) and is_across(made, store))
        self.assertGreater(held, 60)

    def test_lots_within_one_another(self):
        one = store_of(SHELF, (("a", "b", "c"), ("a", "b"), ("d",)), (("a",), ("a", "b")))
        made = self.check_pair(one, one)
        self.check_same((made.writes, made.asks), ((("d",), ("a", "b")), (("a",),)))
        self.check_same(joint(FIRST, FIRST).text, FIRST.text)

    def test_too_many_of_a_kind(self):
        names = SIX_KEEP.circle.names
        pairs = [lot for lot in all_lots(names) if len(lot) == 2]
        seen = set()
        draw = random.Random(8)
        for _ in range(400):
            many = draw.choice(((4, 2), (2, 4), (3, 3), (4, 4)))
            one, other = [store_of(SIX_KEEP, *[tuple(draw.sample(pairs,
                                                                 draw.randint(1, most))) for most in many]) for _ in range(2)]
            self.check_pair(one, other)
            seen.add(tuple(len(lots_of_both(names, *some)) for some in ((one.writes, other.writes), (one.asks, other.asks))))
        # Eight are not too many, nine are, of each kind by itself.
        self.assertTrue(any(writes == 8 and asks <= 8 for writes, asks in seen))
        self.assertTrue(any(writes <= 8 and asks == 8 for writes, asks in seen))
        self.assertTrue(any(writes == 9 and asks <= 8 for writes, asks in seen))
        self.assertTrue(any(writes <= 8 and asks == 9 for writes, asks in seen))

    def test_other_shelves(self):
        self.check_refuses(OtherShelf, NO_STORES + junk(), lambda value: joint(FIRST, value))
        self.check_refuses(OtherShelf, NO_STORES, lambda value: joint(other=value, one=FIRST))


class TestByJoint(Checks, unittest.TestCase):
    def test_drawn_stores(self):
        words = []
        for one, other in drawn_pairs(300, 53):
            wrong = [store for store in (one, other) if not is_sound(store)]
            if wrong:
                with self.assertRaises(Unsound) as caught:
                    by_joint(one, other)
                self.assertIs(type(caught.exception), Unsound)
                self.assertEqual(caught.exception.value[0], "misses")
                self.assertIs(shows_sound(wrong[0], caught.exception.value), True)
                continue
            word, way = by_joint(one=one, other=other)
            self.assertIs(type(way), tuple)
            self.assertEqual(way, (one, joint(one, other), other))
            right = all(is_across(way[early], way[late]) for early, late in itertools.combinations_with_replacement(range(3),
                                                                                                                    2))
            self.assertEqual(word, "led" if right else "copied")
            self.assertEqual(led(way)[0] == "led", right)
            self.check_same(copied(way), ("led",))
            words.append(word)
        self.assertGreater(min(words.count("led"), words.count("copied")), 10)

    def test_unsound_ones_in_sequence(self):
        for one, other, wrong in ((STORE, FIRST, STORE), (FIRST, STORE, STORE), (STORE, FULL, STORE), (FULL, STORE, FULL)):
            with self.assertRaises(Unsound) as caught:
                by_joint(one, other)
            self.check_same(caught.exception.value, sound(wrong))

    def test_too_many(self):
        names = SIX_KEEP.circle.names
        fours = [lot for lot in all_lots(names) if len(lot) == 4]
        draw = random.Random(1)
        seen = 0
        for _ in range(200):
            one, other = [store_of(SIX_KEEP, tuple(draw.sample(fours, 3)),
                                   tuple(draw.sample(fours, draw.randint(1, 3)))) for _ in range(2)]
            if max(len(lots_of_both(names, one.writes, other.writes)), len(lots_of_both(names, one.asks, other.asks))) > 8:
                seen += 1
                self.check_raises(TooMany, 8, by_joint, one, other)
        wide = store_of(SIX_KEEP, tuple(lot for lot in all_lots(names) if len(lot) == 2)[:8], (names,))
        other = store_of(SIX_KEEP, tuple(lot for lot in all_lots(names) if len(lot) == 2)[7:], (names,))
        self.check_raises(TooMany, 8, by_joint, wide, other)
        # Soundness is asked for ahead of how many there are.
        unsound = store_of(SIX_KEEP, other.writes, (names[:2], names))
        with self.assertRaises(Unsound):
            by_joint(wide, unsound)

    def test_other_shelves(self):
        self.check_refuses(OtherShelf, NO_STORES + junk(), lambda value: by_joint(FIRST, value))
        self.check_refuses(OtherShelf, NO_STORES, lambda value: by_joint(other=value, one=STORE))

    def test_one_store_twice(self):
        for store in (FIRST, SECOND, THIRD, SMALL):
            self.assertEqual(by_joint(store, store), ("led", (store, joint(store, store), store)))
        self.assertEqual(across(joint(FIRST, THIRD), THIRD)[0], "across")
        self.assertEqual(Shelf(SHELF.text), joint(FIRST, THIRD).shelf)


if __name__ == "__main__":
    unittest.main()
