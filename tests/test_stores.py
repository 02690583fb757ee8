"""Section 12: stores."""

import itertools
import re
import unittest

from helper import Checks, SHELF_TEXT, all_lots, deep, junk
from lotkeepers.errors import BadLot, BadLots, BadStore, Full, Held, Last, NoLot
from lotkeepers.shelves import Shelf
from lotkeepers.stores import Store, store_of
from test_families import NO_LOT, NO_LOTS
from test_shelves import SHELF, TEXTS

TEXT = SHELF_TEXT + "\nwrite a b c\nwrite d\nask a d\nask a b d\nask a b c d"
STORE = Store(TEXT)
LOTS = [lot for lot in all_lots("abcd") if lot]
SMALL_TEXT = "parts x\nkeeper b x\nkeeper a x x\nwrite b\nask a"
FULL = store_of(SHELF, tuple(LOTS[:8]), tuple(LOTS[-8:]))


def first_wrong(lines):
    """The number of the first line that cannot stand where it does, by a table of what may follow what."""
    held = {"parts": [], "keeper": [], "write": [], "ask": []}
    for number, line in enumerate(lines, start=1):
        word, _, rest = line.partition(" ")
        names = rest.split(" ")
        ahead = [kind for kind in held if held[kind]]
        fine = word in held
        if word == "parts":
            fine = not ahead and len(names) <= 4 and len(set(names)) == len(names) and all(re.fullmatch("[a-z]{1,8}", n) for n in names)
        elif word == "keeper":
            parts = "|".join(held["parts"][0]) if ahead else ""
            fine = (ahead[-1:] in (["parts"], ["keeper"]) and len(held["keeper"]) < 6 and len(names) in (2, 3)
                    and bool(re.fullmatch("[a-z]{1,8}", names[0])) and names[0] not in [row[0] for row in held["keeper"]]
                    and all(re.fullmatch(rf"({parts})(\+({parts}))*", piece) for piece in names[1:])
                    and all(self_ordered(piece.split("+"), held["parts"][0]) for piece in names[1:]))
        elif fine:
            keepers = [row[0] for row in held["keeper"]]
            behind = {"write": (["keeper"], ["write"]), "ask": (["write"], ["ask"])}[word]
            fine = (ahead[-1:] in behind and len(keepers) >= 2 and len(held[word]) < 8 and names not in held[word]
                    and self_ordered(names, keepers))
        if not fine:
            return number
        held[word].append(names)
    return None if held["ask"] else len(lines) + 1


def self_ordered(names, every):
    places = [every.index(name) if name in every else -1 for name in names]
    return places == sorted(set(places)) and -1 not in places


class TestText(Checks, unittest.TestCase):
    def check_text(self, text):
        wrong = first_wrong(text.split("\n"))
        if wrong is None:
            self.check_same(Store(text).text, text)
        else:
            self.check_raises(BadStore, wrong, Store, text)

    def test_what_a_text_tells(self):
        for text in (TEXT, SMALL_TEXT, FULL.text, TEXTS["four parts, six keepers"] + "\nwrite a\nwrite f e\nask f e d c b a"):
            store = Store(text=text)
            rows = [line.split() for line in text.splitlines()]
            self.check_same(store.text, text)
            self.check_same(store.writes, tuple(tuple(row[1:]) for row in rows if row[0] == "write"))
            self.check_same(store.asks, tuple(tuple(row[1:]) for row in rows if row[0] == "ask"))
            self.assertIsInstance(store.shelf, Shelf)
            self.check_same(store.shelf.text, text[:text.index("\nwrite")])

    def test_names_like_words(self):
        text = "parts ask\nkeeper write ask\nkeeper keeper ask\nwrite write\nwrite keeper\nask write keeper"
        store = Store(text)
        self.check_same((store.writes, store.asks), ((("write",), ("keeper",)), (("write", "keeper"),)))
        self.check_same(store.shelf.text, "parts ask\nkeeper write ask\nkeeper keeper ask")

    def test_equal_by_texts_alone(self):
        self.assertTrue(Store(TEXT) == STORE)
        self.assertFalse(Store(TEXT) != STORE)
        for other in (Store(SMALL_TEXT), STORE.without_ask(0), STORE.shelf, TEXT, None, True, 0, [STORE], {},
                      store_of(SHELF, STORE.writes[::-1], STORE.asks)):
            self.assertIs(STORE == other, False)
            self.assertIs(other == STORE, False)
            self.assertIs(STORE != other, True)

    def test_no_strings(self):
        for value in junk():
            if not isinstance(value, str):
                self.check_raises(BadStore, 0, Store, value)
                self.check_raises(BadStore, 0, Store, text=value)
        self.check_raises(BadStore, 0, Store, STORE)
        self.check_raises(BadStore, 0, Store, TEXT.split("\n"))

    def test_missing_lines(self):
        lines = TEXT.split("\n")
        for many, right in enumerate((1, 2, 3, 4, 5, 6, 7, 8, None)):
            if right is not None:
                self.check_raises(BadStore, right, Store, "\n".join(lines[:many]))
        for number in range(8, 11):
            self.assertEqual(Store("\n".join(lines[:number])).asks, STORE.asks[:number - 7])
        self.check_raises(BadStore, 1, Store, "")
        self.check_raises(BadStore, 11, Store, TEXT + "\n")
        self.check_raises(BadStore, 4, Store, "parts x\nkeeper a x\nkeeper b x")
        self.check_raises(BadStore, 5, Store, "parts x\nkeeper a x\nkeeper b x\nwrite a")

    def test_lines_where_they_cannot_stand(self):
        self.check_raises(BadStore, 1, Store, "write a\n" + TEXT)
        self.check_raises(BadStore, 1, Store, "ask a\n" + TEXT)
        self.check_raises(BadStore, 3, Store, "parts x\nkeeper a x\nwrite a\nkeeper b x\nask a")
        self.check_raises(BadStore, 4, Store, "parts x\nkeeper a x\nkeeper b x\nask a\nwrite a")
        self.check_raises(BadStore, 5, Store, "parts x\nkeeper a x\nkeeper b x\nwrite a\nkeeper c x\nask a")
        self.check_raises(BadStore, 6, Store, "parts x\nkeeper a x\nkeeper b x\nwrite a\nask a\nwrite b")
        self.check_raises(BadStore, 6, Store, "parts x\nkeeper a x\nkeeper b x\nwrite a\nask a\nkeeper c x")

    def test_wrong_lots(self):
        for rest in ("", " ", " b a", " a a", " z", " a z", "  a", " a ", " a  b", " A", " a,b", " a+b", " ()", " x"):
            for word, ahead in (("write", ""), ("write", "\nwrite d"), ("ask", "\nwrite d"), ("ask", "\nwrite d\nask d")):
                text = SHELF_TEXT + ahead + "\n" + word + rest
                self.check_raises(BadStore, text.count("\n") + 1, Store, text + "\nask a")
                self.check_text(text)

    def test_ninth_lots_and_alike_ones(self):
        writes = ["write " + " ".join(lot) for lot in LOTS[:9]]
        asks = ["ask " + " ".join(lot) for lot in LOTS[:9]]
        self.assertEqual(len(Store("\n".join([SHELF_TEXT] + writes[:8] + asks[:8])).asks), 8)
        self.check_raises(BadStore, 14, Store, "\n".join([SHELF_TEXT] + writes + asks))
        self.check_raises(BadStore, 22, Store, "\n".join([SHELF_TEXT] + writes[:8] + asks))
        self.check_raises(BadStore, 7, Store, "\n".join([SHELF_TEXT, writes[0], writes[0], asks[0]]))
        self.check_raises(BadStore, 8, Store, "\n".join([SHELF_TEXT, writes[0], asks[0], asks[0]]))

    def test_each_line_out_put_in_twice_and_exchanged(self):
        more = ["", " ", "parts x", "keeper n x", "keeper a x", "write b", "write a d", "ask b", "ask d", "keeper", "write", "ask", "asks a"]
        for text in (TEXT, SMALL_TEXT, FULL.text, TEXTS["four parts, six keepers"] + "\nwrite a\nask f"):
            lines = text.split("\n")
            for place in range(len(lines) + 1):
                for line in more + lines[place:place + 1]:
                    self.check_text("\n".join(lines[:place] + [line] + lines[place:]))
                    self.check_text("\n".join(lines[:place] + [line] + lines[place + 1:]))
                self.check_text("\n".join(lines[:place] + lines[place + 1:]))
                self.check_text("\n".join(lines[:place]))
                for other in range(place):
                    changed = list(lines)
                    if place < len(lines):
                        changed[place], changed[other] = lines[other], lines[place]
                    self.check_text("\n".join(changed))
            for place, line in enumerate(lines):
                for changed in (line + " ", " " + line, line.replace(" ", "  ", 1), line.upper(), line[:-1], line + "\n"):
                    self.check_text("\n".join(lines[:place] + [changed] + lines[place + 1:]))


class TestLots(Checks, unittest.TestCase):
    def test_with_a_lot(self):
        for lot in LOTS:
            for some, call, kind in ((STORE.writes, STORE.with_write, "writes"), (STORE.asks, STORE.with_ask, "asks")):
                if lot in some:
                    self.check_raises(Held, some.index(lot), call, lot)
                    continue
                made = call(lot=lot)
                self.assertIsInstance(made, Store)
                self.check_same(getattr(made, kind), some + (lot,))
                self.check_same((made.writes[:2], made.asks[:3], made.shelf.text), (STORE.writes, STORE.asks, SHELF_TEXT))
                other = "asks" if kind == "writes" else "writes"
                self.check_same(getattr(made, other), getattr(STORE, other))
        self.check_same(STORE.text, TEXT)

    def test_what_cannot_be_added(self):
        for call in (STORE.with_write, STORE.with_ask, FULL.with_write, FULL.with_ask):
            self.check_refuses(BadLot, NO_LOT + [()], call)
            self.check_refuses(BadLot, NO_LOT + [()], lambda value: call(lot=value))
        for number, lot in enumerate(FULL.writes):
            self.check_raises(Held, number, FULL.with_write, lot)
        for number, lot in enumerate(FULL.asks):
            self.check_raises(Held, number, FULL.with_ask, lot)
        for lot in LOTS:
            if lot not in FULL.writes:
                self.check_raises(Full, 8, FULL.with_write, lot)
            if lot not in FULL.asks:
                self.check_raises(Full, 8, FULL.with_ask, lot)
        self.check_same(len(FULL.without_write(7).with_write(("a", "b", "c", "d")).writes), 8)
        self.check_same(len(FULL.without_ask(7).with_ask(("a",)).asks), 8)

    def test_without_a_lot(self):
        for store in (STORE, FULL):
            for number in range(len(store.writes)):
                made = store.without_write(number=number)
                self.check_same(made.writes, store.writes[:number] + store.writes[number + 1:])
                self.check_same((made.asks, made.shelf.text), (store.asks, store.shelf.text))
            for number in range(len(store.asks)):
                made = store.without_ask(number=number)
                self.check_same(made.asks, store.asks[:number] + store.asks[number + 1:])
                self.check_same((made.writes, made.shelf.text), (store.writes, store.shelf.text))

    def test_the_last_one_stays(self):
        small = Store(SMALL_TEXT)
        self.check_raises(Last, 0, small.without_write, 0)
        self.check_raises(Last, 0, small.without_ask, 0)
        self.check_raises(Last, 0, STORE.without_write(0).without_write, 0)
        self.check_raises(Last, 0, STORE.without_ask(2).without_ask(0).without_ask, number=0)

    def test_no_numbers(self):
        wrong = [-1, 3, 8, None, True, False, "0", "", (), (0,), [0], {}, ("a", "d"), deep(30), 999999999]
        for call in (STORE.without_write, STORE.without_ask, Store(SMALL_TEXT).without_write, Store(SMALL_TEXT).without_ask):
            self.check_refuses(NoLot, wrong, call)
            self.check_refuses(NoLot, wrong, lambda value: call(number=value))
        self.check_refuses(NoLot, [2], STORE.without_write)
        self.check_refuses(NoLot, [1], Store(SMALL_TEXT).without_ask)


class TestStoreOf(Checks, unittest.TestCase):
    def test_ordinary_ones(self):
        for writes in itertools.combinations(LOTS[::2], 2):
            for asks in itertools.permutations(LOTS[::4], 3):
                made = store_of(shelf=SHELF, writes=writes, asks=asks)
                self.check_same((made.writes, made.asks, made.shelf.text), (writes, asks, SHELF_TEXT))
                self.assertEqual(Store(made.text), made)
        self.assertEqual(store_of(SHELF, STORE.writes, STORE.asks), STORE)
        self.check_same(store_of(SHELF, tuple(LOTS[:8]), (LOTS[0],)).writes, tuple(LOTS[:8]))

    def test_wrong_ones(self):
        wrong = NO_LOTS + [((),), (("a",), ()), ((), ("a",)), tuple(LOTS[:9]), tuple(LOTS)]
        self.check_refuses(BadLots, wrong, lambda value: store_of(SHELF, value, STORE.asks))
        self.check_refuses(BadLots, wrong, lambda value: store_of(SHELF, STORE.writes, value))
        for asks in wrong:
            self.check_refuses(BadLots, wrong, lambda value: store_of(asks=asks, shelf=SHELF, writes=value))


if __name__ == "__main__":
    unittest.main()
