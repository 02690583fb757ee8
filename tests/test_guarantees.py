"""Section 3: other names, another sequence, other sums, and more of something."""

import unittest

from helper import all_families, all_lots
from lotkeepers.bringing import bringing, brings, unlike
from lotkeepers.chances import better, chance
from lotkeepers.circles import Circle
from lotkeepers.duals import dual, meet, most_falls
from lotkeepers.errors import NeverBack, Unserved
from lotkeepers.families import joined, many, shared, within
from lotkeepers.freest import askers, freed, writers
from lotkeepers.shelves import Shelf
from lotkeepers.sound import sound
from lotkeepers.spare import same_lots, spare, spare_pieces, summed
from lotkeepers.standing import left, most_stood, stands
from lotkeepers.stores import Store, store_of
from test_bringing import NEVER, small_shelves
from test_shelves import SHELF, SHELVES
from test_sound import drawn_stores

OLD = Circle(("a", "b", "c", "d"))
NEW = Circle(("zeta", "c", "a", "write"))
NAMES = {"a": "c", "b": "write", "c": "zeta", "d": "a"}


def renamed(lot):
    return NEW.lot(tuple(NAMES[name] for name in lot))


def in_sequence(some):
    return tuple(lot for lot in all_lots(NEW.names) if lot in [renamed(row) for row in some])


def renamed_shelf(shelf):
    """Keepers have other names, and stand in the reverse sequence; so do parts."""
    part = {name: "part" + name for name in shelf.parts}
    lines = ["parts " + " ".join(part[name] for name in reversed(shelf.parts))]
    for keeper, row in reversed(list(zip(shelf.circle.names, shelf.pieces))):
        pieces = ["+".join(part[name] for name in reversed(piece)) for piece in row]
        lines.append("keeper n" + keeper + " " + " ".join(pieces))
    return Shelf("\n".join(lines))


def as_renamed(shelf, lots):
    """Lots with names as in a renamed shelf."""
    rows = [tuple("n" + name for name in reversed(lot)) for lot in lots]
    return tuple(lot for lot in all_lots(renamed_shelf(shelf).circle.names) if lot in rows)


def told(call, *some):
    """What a call returns or raises, records aside."""
    try:
        return call(*some)
    except NeverBack:
        return "never back"
    except Unserved as caught:
        return ("unserved", caught.value)


class TestNames(unittest.TestCase):
    def test_families(self):
        every = all_families(OLD.names)
        for family in every:
            other = in_sequence(family)
            self.assertEqual(many(NEW, other), many(OLD, family))
            self.assertEqual(chance(NEW, other, (2, 5)), chance(OLD, family, (2, 5)))
            if family != ((),):
                self.assertEqual(dual(NEW, other), in_sequence(dual(OLD, family)))
                self.assertEqual(most_falls(NEW, other)[0], most_falls(OLD, family)[0])
        for one in every[::9]:
            for other in every[::11]:
                pair = in_sequence(one), in_sequence(other)
                self.assertEqual(joined(NEW, *pair), in_sequence(joined(OLD, one, other)))
                self.assertEqual(shared(NEW, *pair), in_sequence(shared(OLD, one, other)))
                for call in (within, meet, better):
                    self.assertEqual(call(NEW, *pair)[0], call(OLD, one, other)[0])

    def test_shelves(self):
        for shelf in SHELVES[:3] + NEVER + list(small_shelves()):
            other = renamed_shelf(shelf)
            for lot in all_lots(shelf.circle.names):
                turned = tuple("n" + name for name in reversed(lot))
                self.assertEqual(brings(other, turned)[0], brings(shelf, lot)[0])
                self.assertEqual(unlike(other, turned), unlike(shelf, lot))
            self.assertEqual(spare(other), tuple("n" + name for name in reversed(spare(shelf))))
            spots = [("n" + keeper, number) for keeper, number in spare_pieces(shelf)]
            self.assertEqual(sorted(spare_pieces(other)), sorted(spots))
            least = told(bringing, shelf)
            self.assertEqual(told(bringing, other), least if least == "never back" else as_renamed(shelf, least))

    def test_stores(self):
        for store in drawn_stores(60):
            shelf = renamed_shelf(store.shelf)
            lots = [tuple(tuple("n" + name for name in reversed(lot)) for lot in some) for some in (store.writes, store.asks)]
            other = store_of(shelf, lots[0], lots[1])
            self.assertEqual(sound(other)[0], sound(store)[0])
            self.assertEqual(most_stood(other), most_stood(store))
            for call in (askers, writers):
                least = told(call, store)
                right = least if least[0] == "unserved" else as_renamed(store.shelf, least)
                self.assertEqual(told(call, other), right)


class TestOtherSums(unittest.TestCase):
    def test_all_that_hangs_on_lots(self):
        for store in list(drawn_stores(60)):
            shelf = store.shelf
            changes = [tuple(part for part in shelf.parts[:place + 1]) for place in range(len(shelf.parts))]
            other_shelf = summed(shelf, tuple(changes))
            other = Store(other_shelf.text + store.text[len(shelf.text):])
            self.assertEqual(same_lots(shelf, other_shelf), ("same",))
            self.assertEqual(told(bringing, other_shelf), told(bringing, shelf))
            self.assertEqual((spare(other_shelf), spare_pieces(other_shelf)), (spare(shelf), spare_pieces(shelf)))
            self.assertEqual(sound(other)[0], sound(store)[0])
            for call in (askers, writers, freed):
                self.assertEqual(told(call, other), told(call, store))


class TestMore(unittest.TestCase):
    def test_a_keeper_more(self):
        for shelf in SHELVES[:4] + NEVER:
            for lot in all_lots(shelf.circle.names):
                for name in shelf.circle.rest(lot):
                    wider = shelf.circle.lot(lot + (name,))
                    self.assertFalse(brings(shelf, lot)[0] == "back" and brings(shelf, wider)[0] == "lost")
                    self.assertLessEqual(unlike(shelf, lot), unlike(shelf, wider))

    def test_a_piece_more(self):
        for shelf in small_shelves():
            if len(shelf) > len(shelf.circle):
                continue
            for piece in ("x", "y", "x+y"):
                richer = Shelf(shelf.text + " " + piece)
                for lot in all_lots(shelf.circle.names):
                    self.assertFalse(brings(shelf, lot)[0] == "back" and brings(richer, lot)[0] == "lost")

    def test_fewer_falls(self):
        for store in drawn_stores(60):
            held = [stands(store, number) == ("stands",) for number in range(len(store.shelf.circle) + 1)]
            self.assertEqual(held, sorted(held, reverse=True))
            for lot in all_lots(store.shelf.circle.names):
                for name in lot:
                    fewer = tuple(other for other in lot if other != name)
                    for some, more in zip(left(store, lot), left(store, fewer)):
                        self.assertLessEqual(set(some), set(more))

    def test_equal_calls(self):
        self.assertEqual(brings(SHELF, ("a", "c")), brings(Shelf(SHELF.text), ("a", "c")))
        self.assertEqual(bringing(SHELF), bringing(Shelf(SHELF.text)))


if __name__ == "__main__":
    unittest.main()
