"""Section 36: the shortest and the cheapest ways."""

import functools
import itertools
import random
import unittest

from helper import Checks, alike, deep, junk, near
from lotkeepers.errors import BadSteps, OtherShelf
from lotkeepers.joint import joint
from lotkeepers.leading import copied
from lotkeepers.passages import passage, shows_passage
from lotkeepers.shelves import Shelf
from lotkeepers.stores import Store, store_of
from test_bringing import small_shelves
from test_leading import FIRST, NO_STORES, OTHER, SECOND, THIRD, drawn_step, drawn_store, is_across
from test_lies import SIX_KEEP
from test_shelves import SHELF
from test_stores import STORE

BOTH = joint(FIRST, THIRD)
STEPS = ((BOTH, 4), (SECOND, 1))
NO_STEPS = [
    (), [], None, True, 0, "", "ab", {}, list(STEPS), STEPS[0], (list(STEPS[0]),), (STEPS,), ((BOTH,),), ((BOTH, 1, 1),),
    (BOTH,), (BOTH, 1),
    ((BOTH, 0),), ((BOTH, 10),), ((BOTH, True),), ((BOTH, False),), ((BOTH, "1"),), ((BOTH, None),), ((BOTH, (1,)),),
    ((BOTH, -1),),
    ((1, BOTH),), ((BOTH.text, 1),), ((SHELF, 1),), ((OTHER, 1),), ((BOTH, 1), (OTHER, 1)), ((BOTH, 1), (BOTH, 2)),
    ((BOTH, 1), (SECOND, 1), (Store(BOTH.text), 1)), ((BOTH, 1), None), ((BOTH, 1), [SECOND, 1]), (([BOTH], 1),), deep(30),
    (deep(30),),
    (("a", 1),), ((None, 1),), {BOTH.text: 1}, ((BOTH, 999999999),),
]
FIVE_STORES = tuple((store_of(SHELF, (lot,), (("a", "b", "c", "d"),)), 1) for lot in (("a", "b"), ("a", "c"), ("b", "c"),
                                                                                      ("d",), ("a", "d")))


@functools.lru_cache(None)
def is_open(text, other):
    return is_across(Store(text), Store(other))


def can_pass(one, steps, numbers, other):
    """Whether these steps make a passage: by all stores of the way, each to itself and to the next one."""
    way = (one,) + tuple(steps[number][0] for number in numbers) + (other,)
    return all(is_open(store.text, behind.text) for store, behind in list(zip(way, way)) + list(zip(way, way[1:])))


def all_rows(steps):
    return [row for many in range(len(steps) + 1) for row in itertools.permutations(range(len(steps)), many)]


def right_one(one, other, steps):
    rows = [(sum(steps[number][1] for number in row), len(row), row) for row in all_rows(steps) if can_pass(one, steps, row,
                                                                                                            other)]
    if rows:
        price, _, row = min(rows)
        return ("passage", price, row)
    reached = {row[-1] for row in all_rows(steps) if row and can_pass(one, steps, row[:-1], steps[row[-1]][0])}
    return ("never", tuple(sorted(reached)))


def drawn_cases(many, seed=36):
    """Stores and steps of one shelf, so drawn that the straight way is often closed."""
    draw = random.Random(seed)
    shelves = list(small_shelves())[::6] + [SHELF] * 12
    for number in range(many):
        shelf = draw.choice(shelves)
        few = [drawn_step(draw, SIX_KEEP) for _ in range(8)] if number % 2 else [drawn_store(draw, shelf) for _ in range(20)]
        few = [store for store in few if is_across(store, store)] + few[:1]
        pairs = [pair for pair in itertools.product(few, repeat=2) if not is_across(*pair)] if draw.random() < 0.8 else []
        one, other = draw.choice(pairs) if pairs else (draw.choice(few), draw.choice(few))
        unlike = [store for place, store in enumerate(few) if store not in few[:place]]
        chosen = draw.sample(unlike, min(len(unlike), draw.randint(1, 4)))
        yield one, other, tuple((store, draw.randint(1, draw.choice((1, 2, 9)))) for store in chosen)


class TestPassage(Checks, unittest.TestCase):
    def check_case(self, one, other, steps, near_too):
        right = right_one(one, other, steps)
        self.check_same(passage(one=one, other=other, steps=steps), right)
        self.assertIs(shows_passage(one=one, other=other, steps=steps, value=right), True)
        if near_too:
            self.check_shows(shows_passage, (one, other, steps), lambda value: alike(value, right), [right])
            for row in all_rows(steps):
                for price in range(10):
                    for value in (("passage", price, row), ("never", row)):
                        self.assertIs(shows_passage(one, other, steps, value), alike(value, right), value)
        return right

    def test_drawn_cases(self):
        lengths = []
        for number, case in enumerate(drawn_cases(400)):
            right = self.check_case(*case, number % 40 < 2)
            lengths.append((right[0], len(right[-1])))
        for pair in itertools.product(("passage", "never"), range(3)):
            self.assertGreater(lengths.count(pair), 1, pair)

    def test_chains(self):
        """Six stores each of which is across to the next one alone."""
        names = SIX_KEEP.circle.names
        chain = [store_of(SIX_KEEP, (names[place:place + 1],), (names[max(0, place - 1):place + 1],)) for place in range(6)]
        self.check_same([[is_across(one, other) for other in chain] for one in chain],
                        [[late - early in (0, 1) for late in range(6)] for early in range(6)])
        for row in itertools.permutations(range(1, 5)):
            steps = tuple((chain[place], place) for place in row)
            self.check_same(passage(chain[0], chain[5], steps), ("passage", 10,
                                                                 tuple(row.index(place) for place in range(1, 5))))
            self.check_same(passage(chain[5], chain[0], steps), ("never", ()))
            self.check_same(passage(chain[3], chain[1], steps), ("never", tuple(sorted((row.index(3), row.index(4))))))
            for many in range(1, 4):
                fewer = tuple(step for step in steps if step[1] <= many)
                self.check_same(passage(chain[0], chain[5], fewer), ("never", tuple(range(many))))
                self.check_same(passage(chain[0], chain[many + 1], steps)[:2], ("passage", sum(range(many + 1))))
        self.check_case(chain[0], chain[5], tuple(zip(chain[1:5], (1, 2, 3, 4))), True)

    def test_price_then_how_many_then_numbers(self):
        between = [store_of(SHELF, (("a", "b", "c", "d"),), (("a", "b", "c", "d"),) + ((extra,) if extra else ()))
                   for extra in ((), ("b", "c", "d"), ("a", "c", "d"), ("a", "b", "d"))]
        between = [store for store in between if is_across(store, store)]
        self.assertEqual(len(between), 4)
        for prices in itertools.product((1, 2), repeat=4):
            self.check_case(FIRST, THIRD, tuple(zip(between, prices)), prices in ((1, 1, 1, 1), (2, 2, 1, 1)))
        # Steps at one price stand by their numbers.
        self.check_same(passage(FIRST, THIRD, ((SECOND, 1), (between[0], 2), (BOTH, 2))), ("passage", 2, (1,)))

    def test_more_steps_may_be_cheaper(self):
        shelf = Shelf("parts x\n" + "\n".join(f"keeper {name} x" for name in "abcde"))
        one = store_of(shelf, (("a",),), (("a", "b"),))
        stores = [store_of(shelf, (("b",),), (("a", "b", "c"),)), store_of(shelf, (("c",),), (("b", "c", "d"),)),
                  store_of(shelf, (("b", "d"),), (("a", "c", "d"),))]
        other = store_of(shelf, (("e",),), (("c", "d", "e"),))
        for prices in itertools.product((1, 3, 4, 9), repeat=3):
            steps = tuple(zip(stores, prices))
            self.check_case(one, other, steps, prices == (1, 3, 4))
        self.check_same(passage(one, other, tuple(zip(stores, (1, 1, 9)))), ("passage", 2, (0, 1)))
        # At one price fewer steps stand ahead.
        straight = ((stores[0], 1), (stores[1], 1), (store_of(shelf, (("a", "c"),), (("a", "c", "d"),)), 2))
        self.check_same([can_pass(one, straight, row, other) for row in ((0, 1), (2,))], [True, True])
        self.check_same(passage(one, other, straight), ("passage", 2, (2,)))

    def test_one_and_other_alike(self):
        for store in (FIRST, SECOND, THIRD):
            self.check_case(store, store, STEPS, True)
            self.check_same(passage(store, Store(store.text), STEPS), ("passage", 0, ()))
            self.check_same(passage(store, store, ((store, 1),)), ("passage", 0, ()))

    def test_stores_that_are_not_sound(self):
        self.check_same(passage(STORE, STORE, STEPS), ("never", ()))
        self.check_same(passage(STORE, SECOND, STEPS), ("never", ()))
        # One that is not sound is never reached, but others are.
        self.check_case(SECOND, STORE, STEPS + ((STORE, 1),), False)
        self.assertEqual(passage(SECOND, STORE, STEPS + ((STORE, 1),)), ("never", (0, 1)))

    def test_steps_that_are_one_or_other(self):
        for steps in (((FIRST, 1),), ((THIRD, 2),), ((FIRST, 1), (THIRD, 1)), ((THIRD, 1), (BOTH, 9), (FIRST, 1), (SECOND, 2))):
            self.check_case(FIRST, THIRD, steps, True)
            self.check_case(THIRD, FIRST, steps, True)

    def test_all_that_can_be_reached(self):
        self.check_case(FIRST, STORE, ((BOTH, 1), (THIRD, 1), (SECOND, 1), (FIRST, 1)), False)
        self.check_same(passage(FIRST, STORE, ((THIRD, 1), (BOTH, 1)))[1], (0, 1))
        self.check_same(passage(FIRST, STORE, ((THIRD, 1), (SECOND, 1)))[1], ())

    def test_other_shelves(self):
        for call in (passage, lambda one, other, steps: shows_passage(one, other, steps, ("never", ()))):
            self.check_refuses(OtherShelf, NO_STORES + junk(), lambda value: call(FIRST, value, STEPS))
            self.check_refuses(OtherShelf, NO_STORES, lambda value: call(FIRST, value, value))

    def test_what_are_no_steps(self):
        wrong = NO_STEPS + junk() + [FIVE_STORES, FIVE_STORES[:1] * 2]
        for call in (passage, lambda one, other, steps: shows_passage(one, other, steps, ("never", ()))):
            self.check_refuses(BadSteps, wrong, lambda value: call(FIRST, THIRD, value))
            self.check_refuses(BadSteps, NO_STEPS, lambda value: call(steps=value, other=THIRD, one=FIRST))
            # Also if the straight way is open.
            self.check_refuses(BadSteps, NO_STEPS, lambda value: call(FIRST, FIRST, value))
        for value in near(((1, 4),)):
            held = tuple((BOTH,) + row[1:] if type(row) is tuple and row[:1] == (1,
                                                                                 ) else row
                         for row in value) if type(value) is tuple else value
            fine = type(held) is tuple and len(held) == 1 and type(held[0]) is tuple and len(held[0]) == 2 \
                and isinstance(held[0][0], Store) and type(held[0][1]) is int and 1 <= held[0][1] <= 9
            if not fine:
                self.check_keeps(BadSteps, held, passage, FIRST, THIRD, held)
        self.check_case(FIRST, THIRD, FIVE_STORES[:4], True)

    def test_passages_are_ways_that_are_copied(self):
        for one, other, steps in drawn_cases(150, 5):
            told = passage(one, other, steps)
            if told[0] == "passage":
                self.assertEqual(copied((one,) + tuple(steps[number][0] for number in told[2]) + (other,)), ("led",))


if __name__ == "__main__":
    unittest.main()
