"""Section 37: keepers that come and go."""

import unittest

from helper import Checks, all_lots, deep, junk
from lotkeepers.errors import BadName, BadPieces, Emptied, NoKeeper, TooFew, TooManyKeepers, Unsound
from lotkeepers.moving import still, with_keeper, without_keeper
from lotkeepers.shelves import Shelf
from lotkeepers.sound import shows_sound, sound
from lotkeepers.stores import Store, store_of
from test_costs import STORES, without
from test_lies import SIX_KEEP
from test_shelves import NO_KEEPERS, SHELF, SHELVES
from test_sound import FEW, SMALL, drawn_stores, is_sound
from test_stores import FULL, STORE

SECOND = store_of(SHELF, (("a", "b", "d"),), (("b", "d"),))
PAIR = store_of(Shelf("parts x\nkeeper a x\nkeeper b x"), (("a",), ("b",)), (("a", "b"),))
SIX_STORE = store_of(SIX_KEEP, (SIX_KEEP.circle.names,), (SIX_KEEP.circle.names,))
EVERY = STORES + [SECOND, PAIR, SIX_STORE] + list(drawn_stores(150))
NO_NAMES = ["a", "d", "", "A", "abcdefghi", "a b", "e ", "e1", "e+", None, True, 0, 1, ("e",), ["e"], {}, (), deep(30), SHELF,
            "e\n"]
NO_PIECES = [
    (), [], None, True, 0, "", "x", "xy", {}, ("x",), ("x", "y"), [("x",)], (["x"],), (("x",), ["y"]),
    (("x",), ("y",), ("x",)), ((),),
    (("x",), ()), (("z",),), (("y", "x"),), (("x", "x"),), (("x", "z"),), (("x",), None), (("x",), "y"), ((1,),), ((True,),),
    ((None,),),
    ((("x",),),), (("x+y",),), deep(30), (deep(30),), SHELF, (SHELF,), (("",),), (("a",),), {("x",): 1},
]


def lots_without(some, keeper):
    """Each lot without the keeper, where it stands first."""
    rows = [without(lot, keeper) for lot in some]
    return tuple(row for place, row in enumerate(rows) if row not in rows[:place])


def text_without(store, keeper):
    """The text, by its lines."""
    held = []
    for line in store.text.split("\n"):
        words = line.split(" ")
        if words[:2] == ["keeper", keeper]:
            continue
        if words[0] in ("write", "ask"):
            line = " ".join(word for place, word in enumerate(words) if place == 0 or word != keeper)
        if line not in held:
            held.append(line)
    return "\n".join(held)


class TestWithout(Checks, unittest.TestCase):
    def check_keeper(self, store, keeper):
        """What is told, or the error that is due."""
        if len(store.shelf.circle) == 2:
            self.check_raises(TooFew, 2, without_keeper, store, keeper)
            self.check_raises(TooFew, 2, still, store, keeper)
            return "few"
        if (keeper,) in store.writes + store.asks:
            self.check_raises(Emptied, (keeper,), without_keeper, store, keeper)
            self.check_raises(Emptied, (keeper,), still, store, keeper)
            return "emptied"
        made = without_keeper(store=store, keeper=keeper)
        self.assertIsInstance(made, Store)
        self.check_same(made.text, text_without(store, keeper))
        self.check_same((made.writes, made.asks), (lots_without(store.writes, keeper), lots_without(store.asks, keeper)))
        self.check_same(made.shelf.circle.names, without(store.shelf.circle.names, keeper))
        place = store.shelf.circle.names.index(keeper)
        self.check_same(made.shelf.pieces, store.shelf.pieces[:place] + store.shelf.pieces[place + 1:])
        self.check_same(made.shelf.parts, store.shelf.parts)
        return self.check_still(store, keeper, made)

    def check_still(self, store, keeper, made):
        if not is_sound(store):
            with self.assertRaises(Unsound) as caught:
                still(store, keeper)
            self.assertIs(shows_sound(store, caught.exception.value), True)
            self.assertEqual(caught.exception.value[0], "misses")
            return "unsound"
        told = still(store=store, keeper=keeper)
        self.assertEqual(told[0], "sound" if is_sound(made) else "misses")
        if told[0] == "sound":
            self.check_same(told, ("sound",))
        else:
            self.assertIs(shows_sound(made, told), True)
        return told[0]

    def test_each_keeper_of_each_store(self):
        words = [self.check_keeper(store, keeper) for store in EVERY for keeper in store.shelf.circle.names]
        for word in ("few", "emptied", "unsound", "sound", "misses"):
            self.assertGreater(words.count(word), 8, word)

    def test_of_alike_lots_the_first_stays(self):
        store = store_of(SHELF, (("a", "d"), ("b", "d"), ("d",), ("a", "b", "d"), ("b", "c")),
                         (("a", "b", "d"), ("b", "d"), ("a", "c", "d")))
        made = without_keeper(store, "a")
        self.check_same((made.writes, made.asks), ((("d",), ("b", "d"), ("b", "c")), (("b", "d"), ("c", "d"))))
        made = without_keeper(store, "c")
        self.check_same(made.writes, (("a", "d"), ("b", "d"), ("d",), ("a", "b", "d"), ("b",)))
        self.check_same(made.asks, (("a", "b", "d"), ("b", "d"), ("a", "d")))

    def test_emptied_lots(self):
        for writes, asks in (((("a",), ("b", "c")), (("d",),)), ((("b", "c"),), (("c", "d"), ("a",))), ((("a",),), (("a",),))):
            self.check_raises(Emptied, ("a",), without_keeper, store_of(SHELF, writes, asks), "a")
        self.check_same(without_keeper(store_of(SHELF, (("b",),), (("a", "b"),)), "a").asks, (("b",),))

    def test_parts_that_nobody_has_then(self):
        store = store_of(Shelf("parts x y\nkeeper a x\nkeeper b y\nkeeper c x"), (("a", "b"),), (("a", "b"), ("a", "b", "c")))
        made = without_keeper(store, "b")
        self.check_same(made.text, "parts x y\nkeeper a x\nkeeper c x\nwrite a\nask a\nask a c")
        self.check_same(still(store, "b"), ("misses", 0, 0, "01"))
        self.check_same(still(store, "c"), ("sound",))

    def test_wrong_keepers(self):
        for call in (without_keeper, still):
            for store in (SECOND, STORE, FEW):
                self.check_refuses(NoKeeper, NO_KEEPERS, lambda value: call(store, value))
                self.check_refuses(NoKeeper, NO_KEEPERS, lambda value: call(keeper=value, store=store))
        # Two keepers are too few, even if a lot has one of them alone, and if the store is not sound.
        self.check_raises(TooFew, 2, without_keeper, PAIR, "a")
        self.check_raises(TooFew, 2, still, PAIR, "b")
        self.check_raises(Emptied, ("d",), still, STORE, "d")


class TestWith(Checks, unittest.TestCase):
    def all_pieces(self, shelf):
        ones = [some for some in all_lots(shelf.parts) if some]
        return [(one,) for one in ones] + [(one, other) for one in ones for other in ones]

    def test_all_pieces(self):
        for store in STORES[:3] + [SECOND]:
            for pieces in self.all_pieces(store.shelf):
                made = with_keeper(store=store, name="zz", pieces=pieces)
                self.assertIsInstance(made, Store)
                lines = store.text.split("\n")
                place = len([line for line in lines if line.split(" ")[0] in ("parts", "keeper")])
                line = "keeper zz " + " ".join("+".join(piece) for piece in pieces)
                self.check_same(made.text, "\n".join(lines[:place] + [line] + lines[place:]))
                self.check_same((made.writes, made.asks), (store.writes, store.asks))
                self.assertEqual(without_keeper(made, "zz"), store)
                self.assertEqual(sound(made)[0], sound(store)[0])

    def test_names_of_all_kinds(self):
        for name in ("e", "x", "keeper", "abcdefgh", "write"):
            made = with_keeper(SECOND, name, (("x",),))
            self.check_same(made.shelf.circle.names, ("a", "b", "c", "d", name))

    def test_six_are_the_most(self):
        store = with_keeper(with_keeper(SECOND, "e", (("x",),)), "f", (("y",), ("x", "y")))
        self.assertEqual(len(store.shelf.circle), 6)
        self.check_raises(TooManyKeepers, 6, with_keeper, store, "g", (("x",),))
        self.check_raises(TooManyKeepers, 6, with_keeper, SIX_STORE, "g", (("x",), ("x",)))
        self.check_raises(TooManyKeepers, 6, with_keeper, store_of(SHELVES[3], (("a",),), (("a",),)), "g",
                          (("w", "x", "y", "z"),))

    def test_wrong_ones(self):
        for store in (SECOND, FULL):
            self.check_refuses(BadName, NO_NAMES, lambda value: with_keeper(store, value, (("x",),)))
            self.check_refuses(BadName, NO_NAMES, lambda value: with_keeper(store, value, value))
            self.check_refuses(BadPieces, NO_PIECES, lambda value: with_keeper(store, "e", value))
            self.check_refuses(BadPieces, NO_PIECES, lambda value: with_keeper(pieces=value, store=store, name="e"))
        self.check_refuses(BadPieces, junk(), lambda value: with_keeper(SECOND, "e", value))
        self.check_refuses(BadPieces, [(("y",),), (("x", "y"),)], lambda value: with_keeper(FEW, "e", value))

    def test_the_sequence_of_errors(self):
        for name in NO_NAMES[2:]:
            self.check_keeps(BadName, name, with_keeper, SIX_STORE, name, ())
        for pieces in NO_PIECES:
            self.check_keeps(BadPieces, pieces, with_keeper, SIX_STORE, "g", pieces)
        self.check_raises(TooManyKeepers, 6, with_keeper, SIX_STORE, "g", (("x",),))

    def test_a_keeper_more_brings_as_much(self):
        """Who comes is in no lot, so nothing is told otherwise; a store that is sound still is so."""
        for store in EVERY:
            if len(store.shelf.circle) < 6 and is_sound(store):
                made = with_keeper(store, "new", ((store.shelf.parts[0],),))
                self.assertTrue(is_sound(made))
                self.check_same(still(made, "new"), ("sound",))
                self.assertTrue(SMALL.shelf == SHELF)


if __name__ == "__main__":
    unittest.main()
