"""Section 34: one store led into another one."""

import itertools
import random
import unittest

from helper import Checks, alike, all_lots, deep, junk
from lotkeepers.errors import BadWay, OtherShelf
from lotkeepers.leading import across, copied, led, shows_across, shows_copied, shows_led
from lotkeepers.shelves import Shelf
from lotkeepers.sound import sound
from lotkeepers.stores import Store, store_of
from test_bringing import NEVER, is_back, lost_to, small_shelves, sums_back
from test_freest import crossing
from test_shelves import SHELF, SHELVES
from test_sound import FEW, SMALL
from test_stores import FULL, STORE

FIRST = store_of(SHELF, (("a", "b"),), (("a", "b", "d"),))
SECOND = store_of(SHELF, (("a", "b", "d"),), (("b", "d"),))
THIRD = store_of(SHELF, (("b", "d"),), (("c", "d"),))
OTHER = store_of(Shelf("parts x y\nkeeper a x\nkeeper b y\nkeeper c x+y\nkeeper d y x"), (("a", "b"),), (("a", "b", "d"),))
NO_STORES = [
    FIRST.text, FIRST.shelf, SHELF, FIRST.writes, (FIRST,), [FIRST], {}, None, True, 0, "", (), OTHER, FEW, deep(30),
    {"a": FIRST},
    store_of(Shelf("parts y x\nkeeper a x\nkeeper b y\nkeeper c y+x\nkeeper d x y"), FIRST.writes, FIRST.asks),
]
NO_WAYS = [
    (), (FIRST,), [FIRST, SECOND], (FIRST,) * 7, None, True, 0, "", "ab", {}, FIRST, (FIRST, OTHER), (OTHER, FIRST),
    (FIRST, FIRST, OTHER),
    (FIRST, SECOND.text), (FIRST, SHELF), (FIRST, None), (None, FIRST), (FIRST, (SECOND,)), ((FIRST, SECOND),),
    (FIRST, [SECOND]),
    (FIRST, SECOND, 1), (SHELF, SHELF), (FIRST.text, SECOND.text), deep(30), (deep(30), deep(30)), (FIRST, FEW),
    {0: FIRST, 1: SECOND},
    ("led",), (FIRST, True), (FIRST, SECOND, THIRD, FIRST, SECOND, THIRD, FIRST),
]


def misses(one, other):
    """All misses, as across tells them."""
    return [("misses", write, ask, record) for write, lot in enumerate(one.writes) for ask, asked in enumerate(other.asks)
            if not is_back(one.shelf, crossing(lot, asked)) for record in lost_to(one.shelf, crossing(lot, asked))]


def is_across(one, other):
    return not misses(one, other)


def of_papers(one, other, value):
    """Whether any value is as across tells it of stores that are across."""
    if not (type(value) is tuple and len(value) == 2 and value[0] == "across" and type(value[1]) is tuple):
        return False
    rows = [[sums_back(one.shelf, crossing(lot, asked)) for asked in other.asks] for lot in one.writes]
    if len(value[1]) != len(rows) or not all(type(row) is tuple and len(row) == len(other.asks) for row in value[1]):
        return False
    papers = [(sums, right) for row, held in zip(value[1], rows) for sums, right in zip(row, held)]
    return all(type(sums) is tuple and len(sums) == len(right) and all(any(alike(some, one) for one in held)
               for some, held in zip(sums, right)) for sums, right in papers)


def judge_across(one, other):
    rights = misses(one, other)
    if rights:
        return lambda value: any(alike(value, right) for right in rights)
    return lambda value: of_papers(one, other, value)


def way_misses(way, pairs):
    """All misses of these two stores of the way."""
    return [("misses", early, late) + miss[1:] for early, late in pairs for miss in misses(way[early], way[late])]


def led_pairs(way):
    return list(itertools.combinations_with_replacement(range(len(way)), 2))


def copied_pairs(way):
    return [pair for pair in led_pairs(way) if pair[1] - pair[0] < 2]


def drawn_store(draw, shelf):
    every = all_lots(shelf.circle.names)[1:]
    wide = every[len(every) // 2:]
    # Narrow writing lots and wide reading lots, or the other way about, are across more often.
    kinds = [draw.choice((every, wide, wide)) for _ in range(2)]
    return store_of(shelf, *[tuple(draw.sample(kind, draw.randint(1, 2))) for kind in kinds])


def drawn_step(draw, shelf):
    """A store of a shelf of keepers with one piece each, alike: it is across to few others."""
    names = shelf.circle.names
    keeper = draw.choice(names)
    asks = [shelf.circle.lot((keeper, draw.choice(names))) for _ in range(draw.randint(1, 2))]
    return store_of(shelf, ((keeper,),), tuple(dict.fromkeys(asks)))


def drawn_ways(many, seed=34):
    """Ways of stores of one shelf, half of them such as go by steps that are across, if it can be to stores that are not."""
    draw = random.Random(seed)
    shelves = list(small_shelves())[::5] + [NEVER[0]] + [SHELF] * 12
    for number in range(many):
        shelf = draw.choice(shelves)
        few = [drawn_store(draw, shelf) for _ in range(24)]
        sound_ones = [store for store in few if is_across(store, store)]
        way = [draw.choice(sound_ones or few)]
        for _ in range(draw.randint(1, draw.choice((1, 2, 5)))):
            near_ones = [store for store in sound_ones if is_across(way[-1], store)]
            far_ones = [store for store in near_ones if not is_across(way[0], store)]
            way.append(draw.choice((far_ones or near_ones) if number % 2 and near_ones else sound_ones or few))
        yield tuple(way)


class TestAcross(Checks, unittest.TestCase):
    def check_pair(self, one, other, near_too):
        judge = judge_across(one, other)
        value = across(one=one, other=other)
        self.assertTrue(judge(value), (one.text, other.text, value))
        self.assertIs(shows_across(one=one, other=other, value=value), True)
        for right in misses(one, other):
            self.assertIs(shows_across(one, other, right), True)
        if near_too:
            self.check_shows(shows_across, (one, other), judge, [value] + misses(one, other)[:3])
        return value[0]

    def test_drawn_stores(self):
        draw = random.Random(3)
        words = []
        for shelf in list(small_shelves())[::3] + NEVER + [SHELF] * 40 + [SHELVES[3]] * 5:
            for _ in range(4):
                words.append(self.check_pair(drawn_store(draw, shelf), drawn_store(draw, shelf), False))
        self.assertGreater(min(words.count("across"), words.count("misses")), 40)

    def test_near_right_values(self):
        for one, other in ((FIRST, SECOND), (SECOND, THIRD), (SECOND, FIRST), (FIRST, THIRD), (FULL, FIRST)):
            self.check_pair(one, other, True)

    def test_writing_lots_of_one_and_reading_lots_of_other(self):
        one = store_of(SHELF, (("a",), ("a", "b"), ("b",)), (("d",),))
        other = store_of(SHELF, (("c",),), (("a", "b"), ("d",)))
        self.assertEqual(across(one, other)[:3], ("misses", 0, 0))
        self.assertIs(shows_across(one, other, ("misses", 2, 1, "11")), True)
        for value in (("misses", 0, 2, "01"), ("misses", 3, 0, "01"), ("misses", 1, 0, "01"), ("misses", True, 1, "01"),
                      ("misses", 0, False, "01"), ("misses", -1, 0, "10"), ("misses", 0, -1, "10"), ("misses", 0, 0, "00")):
            self.assertIs(shows_across(one, other, value), False, value)
        self.assertEqual(across(other, one)[:3], ("misses", 0, 0))
        self.assertEqual(across(store_of(SHELF, one.writes[1:2], one.asks), store_of(SHELF, other.writes, other.asks[:1]))[0],
                         "across")

    def test_a_store_and_itself(self):
        for one in (FIRST, SECOND, STORE, SMALL, FEW, FULL):
            word, told = across(one, Store(one.text))[0], sound(one)
            self.assertEqual(word == "across", told[0] == "sound")
            self.check_same(across(one, one)[1:], told[1:])
        # The word is another one, and so is the result.
        self.assertIs(shows_across(SMALL, SMALL, ("sound", sound(SMALL)[1])), False)
        self.assertIs(shows_across(SMALL, SMALL, ("across", sound(SMALL)[1])), True)

    def test_other_shelves(self):
        for call in (across, lambda one, other: shows_across(one, other, ("across", ()))):
            self.check_refuses(OtherShelf, NO_STORES, lambda value: call(FIRST, value))
            self.check_refuses(OtherShelf, NO_STORES, lambda value: call(other=value, one=FIRST))
            self.check_refuses(OtherShelf, junk(), lambda value: call(FIRST, value))


class TestWays(Checks, unittest.TestCase):
    def check_way(self, call, shows, pairs, way, near_too):
        rights = way_misses(way, pairs(way)) or [("led",)]
        judge = lambda value: any(alike(value, right) for right in rights)
        value = call(way=way)
        self.assertTrue(judge(value), ([store.text for store in way], value))
        for right in rights[:60] + rights[-20:]:
            self.assertIs(shows(way=way, value=right), True)
        # Pairs of which the other function speaks, or none.
        for right in way_misses(way, itertools.product(range(len(way)), repeat=2)):
            self.assertIs(shows(way, right), right in rights, right)
        if near_too:
            self.check_shows(shows, (way,), judge, [value] + rights[:2] + rights[-2:])
        return value[0]

    def test_drawn_ways(self):
        words = []
        for number, way in enumerate(drawn_ways(300)):
            near_too = number % 25 == 0
            one = self.check_way(led, shows_led, led_pairs, way, near_too)
            other = self.check_way(copied, shows_copied, copied_pairs, way, near_too)
            words.append((one, other))
            self.assertNotEqual((one, other), ("led", "misses"))
        for pair in (("led", "led"), ("misses", "led"), ("misses", "misses")):
            self.assertGreater(words.count(pair), 8, pair)

    def test_later_stores_count_for_led_alone(self):
        # Each is across to itself and the next one, the first one is not across to the third one.
        way = (store_of(SHELF, (("a", "b"),), (("a", "b"),)), store_of(SHELF, (("a", "b", "c", "d"),), (("a", "b", "c"),)),
               store_of(SHELF, (("b", "c", "d"),), (("b", "c"),)))
        self.check_same(copied(way), ("led",))
        self.assertEqual(led(way)[:5], ("misses", 0, 2, 0, 0))
        self.assertIs(shows_led(way, led(way)), True)
        self.assertIs(shows_copied(way, led(way)), False)
        self.assertIs(shows_led(way, ("led",)), False)

    def test_each_store_to_itself(self):
        for call, shows in ((led, shows_led), (copied, shows_copied)):
            self.assertEqual(call((THIRD, THIRD))[0], "led")
            self.assertEqual(call((STORE, SMALL)), ("misses", 0, 0) + sound(STORE)[1:])
            self.assertEqual(call((SMALL, STORE))[1:3], (0, 1))
            self.assertIs(shows((SMALL, STORE), ("misses", 1, 1, 0, 0, "01")), True)
            for value in (("misses", True, 1, 0, 0, "01"), ("misses", 1, True, 0, 0, "01"), ("misses", 1, 0, 0, 0, "01"),
                          ("misses", -1, 1, 0, 0, "01"), ("misses", 2, 2, 0, 0, "01"), ("misses", 1, 1, False, 0, "01"),
                          ["misses", 1, 1, 0, 0, "01"], ("misses", 1, 1, 0, "01"), ("misses", 1, 1, 0, 0, "10")):
                self.assertIs(shows((SMALL, STORE), value), False, value)

    def test_what_is_no_way(self):
        for call in (led, copied, lambda way: shows_led(way, ("led",)), lambda way: shows_copied(way, ("led",))):
            self.check_refuses(BadWay, NO_WAYS + junk(), call)
            self.check_refuses(BadWay, NO_WAYS, lambda value: call(way=value))
        for many in range(2, 7):
            self.check_same(led((SMALL,) * many), ("led",))


if __name__ == "__main__":
    unittest.main()
