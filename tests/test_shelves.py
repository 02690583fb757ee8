"""Section 8: shelves."""

import itertools
import unittest

from helper import Checks, SHELF_TEXT, alike, deep, junk
from lotkeepers.circles import Circle
from lotkeepers.errors import BadRecord, BadShelf, BadSum, NoKeeper
from lotkeepers.shelves import Shelf, answer, comes_to

SHELF = Shelf(SHELF_TEXT)
TEXTS = {
    "one part, two keepers": "parts x\nkeeper a x\nkeeper b x",
    "alike pieces": "parts x y\nkeeper a x x\nkeeper b x+y x+y\nkeeper c y",
    "four parts, six keepers": "parts w x y z\nkeeper f w\nkeeper e x+z y\nkeeper d w+x+y+z w\nkeeper c z\nkeeper b y z\n"
                               "keeper a w+x",
    "names of words": "parts parts keeper\nkeeper keeper parts+keeper\nkeeper parts keeper parts",
    "long names": "parts abcdefgh\nkeeper zzzzzzzz abcdefgh\nkeeper abcdefgh abcdefgh abcdefgh",
}
SHELVES = [SHELF] + [Shelf(text) for text in TEXTS.values()]

NO_KEEPERS = ["z", "", "ab", "A", "x", None, True, 0, 1, ("a",), ["a"], {}, (), deep(30), Circle(("a", "b"))]
NO_RECORDS = ["", "0", "000", "02", "ab", "1 ", " 1", "0\n", None, True, 0, 1, 10, ("0", "1"), ["0", "1"], {}, (), deep(30)]
NO_SUMS = [
    [], None, True, 0, "", "a", {}, ("a",), ("a", 0), (("a",),), (("a", 0, 0),), [("a", 0)], (["a", 0],), (("a", 1),), (("z", 0),),
    (("a", False),), (("d", True),), (("a", "0"),), (("a", None),), (("a", -1),), (("d", 2),), ((0, "a"),), (("b", 0), ("a", 0)),
    (("a", 0), ("a", 0)), (("d", 1), ("d", 0)), (("a", 0), ("d", True)), (("a", 0), None), ((["a"], 0),), ((("a",), 0),),
    (("a", [0]),), (("a", 0), ["b", 0]), ((("a", 0),),), deep(30), (deep(30),), ((None, 0),), (("a", 0), ()), ((),),
]


def value_of(shelf, piece, record):
    """The value of a piece by its words."""
    return sum(int(record[shelf.parts.index(part)]) for part in piece) % 2


def all_records(shelf):
    return ["".join(signs) for signs in itertools.product("01", repeat=len(shelf.parts))]


def all_spots(shelf):
    return [(keeper, number) for keeper, row in zip(shelf.circle.names, shelf.pieces) for number in range(len(row))]


def all_sums(shelf):
    spots = all_spots(shelf)
    return [some for many in range(len(spots) + 1) for some in itertools.combinations(spots, many)]


class TestShelf(Checks, unittest.TestCase):
    def test_what_a_text_tells(self):
        for text in [SHELF_TEXT] + list(TEXTS.values()):
            shelf = Shelf(text=text)
            rows = [line.split() for line in text.splitlines()]
            self.check_same(shelf.text, text)
            self.check_same(shelf.parts, tuple(rows[0][1:]))
            self.assertEqual(shelf.circle, Circle(tuple(row[1] for row in rows[1:])))
            self.check_same(shelf.pieces, tuple(tuple(tuple(word.split("+")) for word in row[2:]) for row in rows[1:]))
            self.assertEqual(len(shelf), sum(len(row) - 2 for row in rows[1:]))

    def test_equal_by_texts_alone(self):
        self.assertTrue(Shelf(SHELF_TEXT) == SHELF)
        self.assertFalse(Shelf(SHELF_TEXT) != SHELF)
        others = [shelf for shelf in SHELVES if shelf is not SHELF]
        others.append(Shelf(SHELF_TEXT.replace("keeper d x y", "keeper d y x")))
        for other in others + [SHELF_TEXT, SHELF.circle, SHELF.pieces, None, 5, True, [SHELF]]:
            self.assertIs(SHELF == other, False)
            self.assertIs(other == SHELF, False)
            self.assertIs(SHELF != other, True)

    def check_wrong(self, text, number):
        self.check_raises(BadShelf, number, Shelf, text)
        self.check_raises(BadShelf, number, Shelf, text=text)

    def test_no_strings(self):
        for value in junk():
            if not isinstance(value, str):
                self.check_wrong(value, 0)
        self.check_wrong([SHELF_TEXT], 0)
        self.check_wrong(tuple(SHELF_TEXT.split("\n")), 0)

    def test_missing_lines(self):
        self.check_wrong("", 1)
        self.check_wrong("parts x", 2)
        self.check_wrong("parts x\nkeeper a x", 3)
        self.check_wrong("parts x\n", 2)
        self.check_wrong("parts x\nkeeper a x\n", 3)

    def test_wrong_first_lines(self):
        for line in ("", " ", "parts", "parts ", "parts  x", " parts x", "parts x ", "part x", "Parts x", "parts x x", "parts x y x",
                     "parts v w x y z", "parts X", "parts x1", "parts abcdefghi", "parts x+y", "parts\tx", "keeper a x", "x",
                     "parts x,y", "parts x\ty"):
            self.check_wrong(line + "\nkeeper a x\nkeeper b x", 1)

    def test_wrong_keepers(self):
        for line in ("", " ", "keeper", "keeper ", "keeper c", "keeper c ", "keeper  c x", "keeper c  x", " keeper c x", "keeper c x ",
                     "keeper c x y x", "keeper c z", "keeper c x+x", "keeper c y+x", "keeper c x+", "keeper c +x", "keeper c +",
                     "keeper c x++y", "keeper c x+y+z", "keeper c x + y", "keeper a x", "keeper b y", "keeper C x", "keeper c1 x",
                     "keeper abcdefghi x", "keepers c x", "Keeper c x", "parts x y", "keeper c x,y", "keeper c X", "write a",
                     "keeper c\tx", "keeper c x+ y"):
            self.check_wrong("parts x y\nkeeper a x\nkeeper b y\n" + line, 4)
            self.check_wrong("parts x y\nkeeper a x\nkeeper b y\n" + line + "\nkeeper d x", 4)
            if line not in ("keeper b y",):
                self.check_wrong("parts x y\nkeeper a x\n" + line + "\nkeeper b y", 3)

    def test_seventh_keeper(self):
        lines = ["parts x"] + [f"keeper {name} x" for name in "abcdefg"]
        self.assertEqual(len(Shelf("\n".join(lines[:7]))), 6)
        self.check_wrong("\n".join(lines), 8)
        self.check_wrong("\n".join(lines + ["parts"]), 8)

    def test_first_of_several(self):
        self.check_wrong("parts x\nkeeper a y\nkeeper b", 2)
        self.check_wrong("part x\nkeeper a y\nkeeper b", 1)
        self.check_wrong("parts x\nkeeper a x\nkeeper a x\nkeeper", 3)
        self.check_wrong("parts x\nkeeper a x\nkeeper", 3)

    def test_each_line_out_put_in_twice_and_exchanged(self):
        for text in [SHELF_TEXT] + list(TEXTS.values()):
            lines = text.split("\n")
            for place in range(len(lines)):
                self.check_lines(lines[:place] + lines[place + 1:])
                self.check_lines(lines[:place] + [""] + lines[place:])
                self.check_lines(lines[:place] + ["keeper n " + lines[0].split()[1]] + lines[place:])
                self.check_lines(lines[:place] + lines[place:place + 1] + lines[place:])
                self.check_lines(lines[:place] + [lines[place] + " "] + lines[place + 1:])
                self.check_lines(lines[:place] + [" " + lines[place]] + lines[place + 1:])
                for other in range(place):
                    changed = list(lines)
                    changed[place], changed[other] = lines[other], lines[place]
                    self.check_lines(changed)

    def check_lines(self, lines):
        """By the table: the first line is of parts, the others are unlike keepers, with pieces of these parts."""
        wrong = None
        for number, line in enumerate(lines, start=1):
            if line != line.strip() or line == "" or (line.split()[0] == "parts") != (number == 1) or number > 7:
                wrong = number
                break
            names = [row.split()[1] for row in lines[1:number]]
            if number > 1 and (len(set(names)) < len(names) or not set(line.split()[2]) <= set(lines[0][5:] + "+")):
                wrong = number
                break
        if wrong is None and len(lines) < 3:
            wrong = len(lines) + 1
        text = "\n".join(lines)
        if wrong is None:
            self.assertEqual(Shelf(text).text, text)
        else:
            self.check_wrong(text, wrong)


class TestAnswer(Checks, unittest.TestCase):
    def test_all_records(self):
        for shelf in SHELVES:
            for keeper, row in zip(shelf.circle.names, shelf.pieces):
                for record in all_records(shelf):
                    right = "".join(str(value_of(shelf, piece, record)) for piece in row)
                    self.check_same(answer(shelf=shelf, keeper=keeper, record=record), right)

    def test_wrong_ones(self):
        self.check_refuses(NoKeeper, NO_KEEPERS, lambda value: answer(SHELF, value, "01"))
        self.check_refuses(BadRecord, NO_RECORDS, lambda value: answer(SHELF, "a", value))
        for record in NO_RECORDS:
            self.check_refuses(NoKeeper, NO_KEEPERS, lambda value: answer(SHELF, value, record))


class TestComesTo(Checks, unittest.TestCase):
    def test_all_sums(self):
        for shelf in SHELVES:
            for some in all_sums(shelf):
                pieces = [shelf.pieces[shelf.circle.names.index(keeper)][number] for keeper, number in some]
                right = tuple(part for part in shelf.parts if sum(part in piece for piece in pieces) % 2)
                self.check_same(comes_to(shelf=shelf, spots=some), right)
        self.check_same(comes_to(SHELF, ()), ())

    def test_wrong_ones(self):
        self.check_refuses(BadSum, NO_SUMS, lambda value: comes_to(SHELF, value))
        self.assertFalse(any(alike(value, some) for value in NO_SUMS for some in all_sums(SHELF)))


if __name__ == "__main__":
    unittest.main()
