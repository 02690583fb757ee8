"""Section 17: the cheapest changes."""

import itertools
import random
import unittest

from helper import Checks, SHELF_TEXT, all_lots, alike, deep, junk, near, one_of
from lotkeepers.changing import by_choice, cheapest, shows_cheapest
from lotkeepers.errors import BadChoice, BadOffers, BadWishes
from lotkeepers.shelves import Shelf
from lotkeepers.stores import Store, store_of
from test_shelves import SHELF, SHELVES
from test_sound import FEW, SMALL, drawn_stores, is_sound
from test_standing import stops
from test_stores import LOTS, STORE

OFFERS = (("ask", ("a", "b", "c"), 2), ("piece", "a", ("y",), 3), ("write", ("c", "d"), 2), ("piece", "c", ("x", "y"), 1))
WISHES = (("sound",), ("stands", 1), ("askers", 2))
SEVEN = store_of(SHELF, tuple(LOTS[:7]), tuple(LOTS[:6]))

NO_OFFERS = [
    (), [], None, True, 0, "", "ask", {}, list(OFFERS), OFFERS[0], (list(OFFERS[0]),), (OFFERS,),
    OFFERS + (("write", ("a",), 1),),
    ("write", ("a",), 1), (("write", ("a",)),), (("write", ("a",), 1, 1),), (("give", ("a",), 1),), (("Write", ("a",), 1),),
    (("write", ("d",), 1),), (("write", ("a", "b", "c"), 1),), (("ask", ("a", "d"), 1),), (("ask", ("a", "b", "c", "d"), 1),),
    (("write", (), 1),), (("ask", (), 1),), (("write", ["a"], 1),), (("write", ("b", "a"), 1),), (("write", ("a", "a"), 1),),
    (("ask", ("z",), 1),), (("ask", "a", 1),), (("ask", None, 1),), (("write", ("a",), 0),), (("write", ("a",), 10),),
    (("write", ("a",), -1),),
    (("write", ("a",), True),), (("write", ("a",), "1"),), (("write", ("a",), None),), (("ask", ("a",), 0),),
    (("ask", ("a",), 10),),
    (("ask", ("a",), True),), (("piece", "d", ("x",), 1),), (("piece", "z", ("x",), 1),), (("piece", ("a",), ("x",), 1),),
    (("piece", "a", ("y", "x"), 1),), (("piece", "a", ("x", "x"), 1),), (("piece", "a", (), 1),), (("piece", "a", ("z",), 1),),
    (("piece", "a", ["x"], 1),), (("piece", "a", "x", 1),), (("piece", "a", "x+y", 1),), (("piece", "a", ("x+y",), 1),),
    (("piece", "a", None, 1),),
    (("piece", "a", ("x",)),), (("piece", "a", ("x",), 0),), (("piece", "a", ("x",), 10),), (("piece", "a", ("x",), True),),
    (("piece", "a", ("x",), 1, 1),), (("piece", ["a"], ("x",), 1),), (("piece", None, ("x",), 1),), (("piece", 0, ("x",), 1),),
    (("write", ("a",), 1), ("write", ("a",), 1)), (("write", ("a",), 1), ("write", ("a",), 2)),
    (("ask", ("a",), 3), OFFERS[0], ("ask", ("a",), 9)),
    (("piece", "a", ("x",), 1), ("piece", "a", ("x",), 2)), (("piece", "a", ("x",), 1), ("piece", "a", ("y",), 1)),
    (("write", ("a",), 1), None), (("write", ("a",), 1), ["ask", ("a",), 1]), deep(30), (deep(30),), ((),), (STORE,),
    (("write", STORE, 1),),
    (([], ("a",), 1),), ((("write",), ("a",), 1),),
]
NO_WISHES = [
    (), [], None, True, 0, "", "sound", ("sound",), {}, [("sound",)], (["sound"],), (("sound", 1),), ((),), (("Sound",),),
    ("sound", "sound"),
    (("stands",),), (("stands", -1),), (("stands", 5),), (("stands", True),), (("stands", False),), (("stands", "1"),),
    (("stands", None),),
    (("stands", 1, 1),), (("stands", (1,)),), (("stands", [1]),), (("askers", 0),), (("askers", 7),), (("askers", -1),),
    (("askers", True),),
    (("askers", "2"),), (("askers",),), (("askers", 1, 1),), (("askers", [1]),), (("sound",), ("sound",)),
    (("stands", 1), ("stands", 1)),
    (("sound",), ("stands", 1), ("stands", 2), ("askers", 2)), (("sound",), None), (("sound",), ["stands", 1]), (("steady",),),
    (("stands", 999999999),),
    (("askers", 2), ("sound",), ("askers", 2)), deep(30), (deep(30),), (STORE,), (("stands", STORE),), (([],),),
    ((["stands"], 1),),
]
NO_CHOICES = [
    [], None, True, 0, "", "0", {}, (4,), (-1,), (True,), (False,), ("0",), (None,), (0, 0), (1, 0), (0, 1, 1), (0, 2, 1), [0],
    (0, True), (0, False),
    ((0,),), ([0],), (0, 1, 2, 3, 4), (0, None), deep(30), (deep(30),), (STORE,), (0, 1, 2, 4), (999999999,), ("ask",), OFFERS,
    OFFERS[:1],
]


def sums_up(offers, choice):
    return sum(offers[number][-1] for number in choice)


def all_choices(offers):
    """In sequence: by price, then by how many, then as tuples."""
    every = [choice for many in range(len(offers) + 1) for choice in itertools.combinations(range(len(offers)), many)]
    return sorted(every, key=lambda choice: (sums_up(offers, choice), len(choice), choice))


def store_by(store, offers, choice):
    """By putting its text together anew."""
    lines = store.text.split("\n")
    for number in choice:
        offer = offers[number]
        if offer[0] == "piece":
            lines = [line + " " + "+".join(offer[2]) if line.split()[:2] == ["keeper", offer[1]] else line for line in lines]
    for word in ("write", "ask"):
        behind = max(number for number, line in enumerate(lines) if line.split()[0] == word) + 1
        lines[behind:behind] = [" ".join((word,) + offers[number][1]) for number in choice if offers[number][0] == word]
    return Store("\n".join(lines))


def keeps(store, wish):
    if wish[0] == "stands":
        return not stops(store, wish[1])
    if wish[0] == "askers":
        return any(len(lot) <= wish[1] for lot in store.asks)
    return is_sound(store)


def broken(store, wishes):
    return [number for number, wish in enumerate(wishes) if not keeps(store, wish)]


def drawn_offers(draw, store):
    """One to four offers for a store, or none if it takes no more."""
    names = store.shelf.circle.names
    every = [("write", lot) for lot in all_lots(names)[1:] if lot not in store.writes]
    every += [("ask", lot) for lot in all_lots(names)[1:] if lot not in store.asks]
    pieces = [some for many in range(1, len(store.shelf.parts) + 1) for some in itertools.combinations(store.shelf.parts, many)]
    every += [("piece", name, draw.choice(pieces)) for name, row in zip(names, store.shelf.pieces) if len(row) == 1] * 2
    many = min(draw.randint(1, 4), len(set(every)))
    return tuple(offer + (draw.randint(1, 3),) for offer in draw.sample(sorted(set(every)), many))


def drawn_wishes(draw, store):
    every = [("sound",), ("sound",)] + [("stands", number) for number in range(len(store.shelf.circle) + 1)]
    every += [("askers", number) for number in range(1, 7)]
    return tuple(dict.fromkeys(draw.sample(every, draw.randint(1, 3))))


def drawn_cases(many):
    """Stores with offers and wishes, drawn alike at each run."""
    draw = random.Random(17)
    for store in drawn_stores(many):
        offers = drawn_offers(draw, store)
        keepers = [offer[1] for offer in offers if offer[0] == "piece"]
        # Two offers of pieces may be of one keeper by the draw.
        if len(set(keepers)) == len(keepers):
            yield store, offers, drawn_wishes(draw, store)


class TestByChoice(Checks, unittest.TestCase):
    def test_all_choices(self):
        for store, offers in [(STORE, OFFERS)] + [row[:2] for row in drawn_cases(60)]:
            for choice in all_choices(offers):
                made = by_choice(store=store, offers=offers, choice=choice)
                self.assertIsInstance(made, Store)
                self.check_same(made.text, store_by(store, offers, choice).text)
                self.assertEqual(made, by_choice(store, offers, choice))
        self.assertEqual(by_choice(STORE, OFFERS, ()), STORE)

    def test_lots_stand_behind_in_the_sequence_of_the_choice(self):
        offers = (("ask", ("c",), 9), ("write", ("b",), 1), ("ask", ("a",), 1), ("write", ("a",), 5))
        made = by_choice(STORE, offers, (0, 1, 2, 3))
        self.check_same(made.writes, STORE.writes + (("b",), ("a",)))
        self.check_same(made.asks, STORE.asks + (("c",), ("a",)))
        self.check_same(by_choice(STORE, OFFERS, (1, 3)).shelf.pieces,
                        ((("x",), ("y",)), (("y",),), (("x", "y"), ("x", "y")), (("x",), ("y",))))

    def test_right_offers_at_the_edges(self):
        for offers in ((("write", ("a",), 1),), (("write", ("a",), 9), ("ask", ("a",), 9)),
                       (("piece", "a", ("x",), 1), ("piece", "b", ("x",), 1)),
                       (("piece", "a", ("x", "y"), 9),), (("write", ("a", "d"), 1), ("ask", ("d",), 1), ("ask", ("a",), 1),
                                                          ("write", ("b",), 1))):
            self.assertEqual(by_choice(STORE, offers, (0,)), store_by(STORE, offers, (0,)))

    def test_eight_lots_of_each_kind(self):
        new = [lot for lot in LOTS if lot not in SEVEN.writes]
        writes = [("write", lot, 1) for lot in new]
        asks = [("ask", lot, 1) for lot in new]
        self.assertEqual(len(by_choice(SEVEN, (writes[0],), (0,)).writes), 8)
        self.assertEqual(len(by_choice(SEVEN, (asks[0], asks[1], writes[0]), (0, 1, 2)).asks), 8)
        for offers in ((writes[0], writes[1]), (asks[0], asks[1], asks[2]), (writes[0], asks[0], asks[1], asks[2]),
                       (writes[2], asks[0], writes[3])):
            self.check_keeps(BadOffers, offers, by_choice, SEVEN, offers, ())
            self.check_keeps(BadOffers, offers, cheapest, SEVEN, offers, WISHES)

    def test_wrong_choices(self):
        self.check_refuses(BadChoice, NO_CHOICES, lambda value: by_choice(STORE, OFFERS, value))
        self.check_refuses(BadChoice, NO_CHOICES + [(1,), (0, 1)],
                           lambda value: by_choice(choice=value, store=STORE, offers=OFFERS[:1]))
        rights = one_of(all_choices(OFFERS))
        for value in junk() + [value for choice in all_choices(OFFERS) for value in near(choice)]:
            if not rights(value):
                self.check_keeps(BadChoice, value, by_choice, STORE, OFFERS, value)


class TestWrongOnes(Checks, unittest.TestCase):
    def calls(self):
        return (cheapest, lambda store, offers, wishes: shows_cheapest(store, offers, wishes, ("none", ())))

    def test_offers(self):
        self.check_refuses(BadOffers, NO_OFFERS, lambda value: by_choice(STORE, value, ()))
        for call in self.calls():
            self.check_refuses(BadOffers, NO_OFFERS, lambda value: call(STORE, value, WISHES))
            self.check_refuses(BadOffers, NO_OFFERS, lambda value: call(offers=value, wishes=WISHES, store=STORE))

    def test_wishes(self):
        for call in self.calls():
            self.check_refuses(BadWishes, NO_WISHES, lambda value: call(STORE, OFFERS, value))
            self.check_refuses(BadWishes, NO_WISHES, lambda value: call(wishes=value, offers=OFFERS, store=STORE))
        self.check_refuses(BadWishes, [(("stands", 3),), (("stands", 4),)],
                           lambda value: cheapest(FEW, (("write", ("a",), 1),), value))

    def test_two_at_once(self):
        for offers in NO_OFFERS:
            for value in (NO_WISHES[0], NO_WISHES[7], None):
                self.check_keeps(BadOffers, offers, cheapest, STORE, offers, value)
                self.check_keeps(BadOffers, offers, shows_cheapest, STORE, offers, value, None)
                self.check_keeps(BadOffers, offers, by_choice, STORE, offers, value)

    def test_near_offers(self):
        """Whatever is near right offers is refused, or is right by its words."""
        for value in near(OFFERS):
            if self.are_offers(STORE, value):
                self.assertEqual(by_choice(STORE, value, ()), STORE)
            else:
                self.check_keeps(BadOffers, value, by_choice, STORE, value, ())

    def are_offers(self, store, value):
        if type(value) is not tuple or len(value) not in (1, 2, 3, 4) or not all(self.is_offer(store, offer)
                                                                                 for offer in value):
            return False
        bare = [offer[:-1] for offer in value]
        pieces = [offer[1] for offer in value if offer[0] == "piece"]
        return len(set(bare)) == len(bare) and len(set(pieces)) == len(pieces)

    def is_offer(self, store, value):
        if type(value) is not tuple or len(value) < 3 or type(value[-1]) is not int or value[-1] not in range(1, 10):
            return False
        some = {"write": store.writes, "ask": store.asks}
        if type(value[0]) is str and value[0] in some:
            return len(value) == 3 and any(alike(value[1], lot) for lot in LOTS) and value[1] not in some[value[0]]
        if value[0] != "piece" or len(value) != 4 or not any(alike(value[2], piece) for piece in (("x",), ("y",), ("x", "y"))):
            return False
        return type(value[1]) is str and value[1] in ("a", "b", "c")

    def test_near_wishes(self):
        rights = [("sound",)] + [("stands", number) for number in range(5)] + [("askers", number) for number in range(1, 7)]
        for value in near(WISHES) + junk():
            right = type(value) is tuple and len(value) in (1, 2, 3) and all(any(alike(wish, one) for one in rights)
                                                                             for wish in value)
            if right and len(set(value)) == len(value):
                self.assertIn(cheapest(STORE, OFFERS, value)[0], ("choice", "none"))
            else:
                self.check_keeps(BadWishes, value, cheapest, STORE, OFFERS, value)


class TestCheapest(Checks, unittest.TestCase):
    def rows(self, store, offers, wishes):
        return [(choice, broken(store_by(store, offers, choice), wishes)) for choice in all_choices(offers)]

    def judge(self, store, offers, wishes):
        """The right result but for its reasons, and for each reason the right ones."""
        rows = self.rows(store, offers, wishes)
        serving = [number for number, row in enumerate(rows) if not row[1]]
        ahead = rows[:serving[0]] if serving else rows
        head = ("choice", sums_up(offers, rows[serving[0]][0]), rows[serving[0]][0]) if serving else ("none",)
        reasons = [[(choice, number) for number in numbers] for choice, numbers in ahead]

        def is_right(value):
            if type(value) is not tuple or len(value) != len(head) + 1 or not alike(value[:-1], head):
                return False
            if type(value[-1]) is not tuple or len(value[-1]) != len(reasons):
                return False
            return all(any(alike(reason, right) for right in row) for reason, row in zip(value[-1], reasons))
        rights = [head + (tuple(row[place % len(row)] for row in reasons),) for place in range(3)]
        return is_right, rights

    def test_drawn_ones(self):
        kinds = []
        for store, offers, wishes in drawn_cases(420):
            is_right, rights = self.judge(store, offers, wishes)
            made = cheapest(store=store, offers=offers, wishes=wishes)
            kinds.append(made[0] + str(len(made[-1]) > 0))
            self.assertTrue(is_right(made), (store.text, offers, wishes, made))
            for value in rights + [made]:
                self.assertIs(shows_cheapest(store=store, offers=offers, wishes=wishes, value=value), True)
        for kind in ("noneTrue", "choiceTrue", "choiceFalse"):
            self.assertGreater(kinds.count(kind), 20, kinds)

    def test_near_right_values(self):
        cases = [(STORE, OFFERS, WISHES[:1]), (STORE, OFFERS[:2], WISHES),
                 (STORE.without_ask(0), OFFERS[:2], (("sound",), ("stands", 1))),
                 (SMALL, OFFERS[1:2], (("sound",),)), (FEW, (("ask", ("a",), 3),), (("askers", 1), ("stands", 2)))]
        for case in cases:
            is_right, rights = self.judge(*case)
            self.check_shows(shows_cheapest, case, is_right, rights)

    def test_any_wish_that_is_not_kept(self):
        case = (STORE, (("write", ("a",), 4),), (("stands", 2), ("sound",), ("askers", 1)))
        rights = [("none", (((), one), ((0,), other))) for one in range(3) for other in range(3)]
        is_right = self.judge(*case)[0]
        for value in rights:
            self.assertTrue(is_right(value))
            self.assertIs(shows_cheapest(*case, value), True)
        self.assertIs(shows_cheapest(*case, ("none", (((), 0), ((0,), True)))), False)
        self.assertIs(shows_cheapest(*case, ("none", (((), 0), ((False,), 1)))), False)
        self.assertIs(shows_cheapest(*case, ("none", (((0,), 1), ((), 0)))), False)
        self.assertIs(shows_cheapest(*case, ("none", (((), 3), ((0,), 1)))), False)
        self.assertIs(shows_cheapest(*case, ("none", (((), -1), ((0,), 1)))), False)

    def test_reasons_are_those_of_the_store_by_the_choice(self):
        # By () it is not sound, and by (1,), with a second piece of a, it is: only the store as it stood is not.
        case = (STORE, (("ask", ("b",), 1), ("piece", "a", ("y",), 1), ("ask", ("c",), 1)), (("sound",), ("stands", 1)))
        made = cheapest(*case)
        self.check_same(made[0], "none")
        self.check_same(dict(made[1])[(1,)], 1)
        self.assertIs(shows_cheapest(*case, made), True)
        wrong = tuple((choice, 0) if choice == (1,) else (choice, number) for choice, number in made[1])
        self.assertIs(shows_cheapest(*case, ("none", wrong)), False)

    def test_sequence_of_choices(self):
        offers = (("write", ("a",), 3), ("write", ("b",), 1), ("write", ("c",), 2), ("write", ("a", "b"), 1))
        right = ((), (1,), (3,), (2,), (1, 3), (0,), (1, 2), (2, 3), (0, 1), (0, 3), (1, 2, 3), (0, 2), (0, 1, 3), (0, 1, 2),
                 (0, 2, 3), (0, 1, 2, 3))
        made = cheapest(STORE, offers, (("stands", 4),))
        self.check_same(made, ("none", tuple((choice, 0) for choice in right)))
        self.assertEqual(right, tuple(all_choices(offers)))

    def test_each_wish(self):
        shelf = Shelf(SHELF_TEXT)
        store = store_of(shelf, (("a", "b", "c"),), (("a", "b", "c"),))
        offers = (("ask", ("d",), 1), ("write", ("d",), 1), ("ask", ("a", "b"), 2))
        self.check_same(cheapest(store, offers, (("sound",),)), ("choice", 0, (), ()))
        self.check_same(cheapest(store, offers, (("askers", 3),)), ("choice", 0, (), ()))
        self.check_same(cheapest(store, offers, (("askers", 2),)), ("choice", 1, (0,), (((), 0),)))
        self.check_same(cheapest(store, offers, (("stands", 0),)), ("choice", 0, (), ()))
        self.check_same(cheapest(store, offers, (("stands", 1),)),
                        ("choice", 2, (0, 1), (((), 0), ((0,), 0), ((1,), 0), ((2,), 0))))
        self.check_same(cheapest(store, offers, (("askers", 2), ("sound",)))[:3], ("choice", 2, (2,)))
        self.check_same(cheapest(store, offers, (("askers", 6),)), ("choice", 0, (), ()))

    def test_pieces_make_lots_bring_back(self):
        store = store_of(SHELVES[1], (("a",),), (("b",),)).with_ask(("a", "b"))
        self.check_same(cheapest(store, (("ask", ("a",), 9),), (("sound",),))[0], "none")
        store = Store("parts x y\nkeeper a x\nkeeper b y\nwrite a\nask a")
        offers = (("piece", "a", ("x",), 1), ("piece", "b", ("x",), 1))
        self.check_same(cheapest(store, offers, (("sound",),))[0], "none")
        offers = (("piece", "a", ("x", "y"), 5), ("piece", "b", ("x",), 1))
        self.check_same(cheapest(store, offers, (("sound",),)), ("choice", 5, (0,), (((), 0), ((1,), 0))))


if __name__ == "__main__":
    unittest.main()
