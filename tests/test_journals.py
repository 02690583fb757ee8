"""Section 40: journals."""

import random
import unittest

from helper import deep, junk
from house_model import CROSSING, HouseChecks, Model, drawn_houses, house_call, first_error, seen
from lotkeepers.errors import BadJournal, BadStore, NothingToRedo, NothingToUndo
from lotkeepers.houses import House
from lotkeepers.journals import journal, read_journal
from lotkeepers.shelves import Shelf
from lotkeepers.stores import Store, store_of
from lotkeepers.wellness import audit, cure, needed, spread
from test_leading import SECOND, THIRD
from test_runs import ASKED
from test_shelves import SHELF
from test_sound import SMALL, is_sound
from test_stores import FULL, STORE

HEAD = CROSSING.text + "\nhouse\n"
# Where the first line behind `house` stands.
FIRST_LINE = len(HEAD.split("\n"))


def line_of(deed):
    """A deed's line, by the section's words."""
    word, *rest = deed
    if word == "mend":
        return " ".join(["mend", rest[0], *rest[1]])
    if word == "lead":
        kinds = [",".join(".".join(lot) for lot in some) for some in (rest[0].writes, rest[0].asks)]
        return f"lead {kinds[0]}/{kinds[1]} {rest[1]} {rest[2]}"
    return " ".join([word.replace("_", "")] + [str(value) for value in rest])


def text_of(model):
    return "\n".join([model.first.text, "house"] + [line_of(deed) for deed in model.deeds])


def integer_of(word):
    try:
        return int(word) if str(int(word)) == word else None
    except ValueError:
        return None


def deed_of(store, line):
    """The deed of a line, None if it has no form or its lots are none of a store."""
    words = line.split(" ")
    if not all(words):
        return None
    word, rest = words[0], words[1:]
    if word == "put" and len(rest) == 2 and integer_of(rest[0]) is not None:
        return "put", int(rest[0]), rest[1]
    if word == "give" and len(rest) == 2 and integer_of(rest[0]) is not None:
        return "give", int(rest[0]), rest[1]
    if word in ("fall", "rise", "lose") and len(rest) == 1:
        return word, rest[0]
    if word == "mend" and rest:
        return "mend", rest[0], tuple(rest[1:])
    if word == "read" and len(rest) == 2 and None not in map(integer_of, rest):
        return "read", int(rest[0]), int(rest[1])
    if word == "letgo" and len(rest) == 1 and integer_of(rest[0]) is not None:
        return "let_go", int(rest[0])
    if word == "lead" and len(rest) == 3 and rest[0].count("/") == 1 and None not in map(integer_of, rest[1:]):
        kinds = [[lot.split(".") for lot in some.split(",")] for some in rest[0].split("/")]
        try:
            other = Store("\n".join([store.shelf.text] + ["write " + " ".join(lot) for lot in kinds[0]]
                                    + ["ask " + " ".join(lot) for lot in kinds[1]]))
        except BadStore:
            return None
        return "lead", other, int(rest[1]), int(rest[2])
    return None


def wrong_number(text):
    """The number by which a text is refused, None if it is a journal; by the model."""
    if type(text) is not str:
        return 0
    lines = text.split("\n")
    if "house" not in lines:
        return len(lines) + 1
    place = lines.index("house")
    try:
        store = Store("\n".join(lines[:place]))
    except BadStore as caught:
        return caught.value if place else 1
    if not is_sound(store):
        return place + 1
    model = Model(store)
    for number, line in enumerate(lines[place + 1:], start=place + 2):
        state = model.state()
        deed = deed_of(state.store, line)
        if deed is None or first_error(state, *deed) is not None:
            return number
        model.do(deed)
    return None


def variants(draw, lines):
    """A text like this one, with a line out, twice, exchanged, put in, or with other words."""
    kind = draw.randrange(9)
    place = draw.randrange(len(lines))
    if kind == 0:
        return lines[:place] + lines[place + 1:]
    if kind == 1:
        return lines[:place] + lines[place:place + 1] + lines[place:]
    if kind == 2:
        other = draw.randrange(len(lines))
        held = list(lines)
        held[place], held[other] = held[other], held[place]
        return held
    if kind == 3:
        more = draw.choice(["", "house", "fall a", "put 0 00", "read 0", "read 0 0", "undo", "mend", "mend a b", "letgo 0",
                            "letgo 1", "x",
                            "put 0 0", "rise a", "lose d", "keeper z x", "write a", "ask a", "audit", "lead a/a 0 0", "trial",
                            "keep"])
        return lines[:place] + [more] + lines[place:]
    words = lines[place].split(" ")
    at = draw.randrange(len(words))
    if kind == 4:
        words[at] = draw.choice(["a", "b", "0", "1", "2", "-1", "00", "+1", "01", "-0", "x", "put", "a.b", "a/b", "None",
                                 "1_0", "1.0", "9"])
    if kind == 5:
        words.insert(at, "")
    if kind == 6:
        words.append(draw.choice(["", "0", "a", "b"]))
    if kind == 7:
        del words[at]
    if kind == 8:
        words[at] = words[at] + draw.choice(["0", "a", " ", ".", "/", ",", "\t"])
    return lines[:place] + [" ".join(words)] + lines[place + 1:]


class TestJournal(HouseChecks, unittest.TestCase):
    def test_drawn_houses(self):
        words = set()
        for house, model in drawn_houses(150, 47, 18):
            words |= {deed[0] for deed in model.deeds}
            text = journal(house=house)
            self.check_same(text, text_of(model))
            self.check_read_back(house, model, text)
        self.assertEqual(len(words), 9)

    def check_read_back(self, house, model, text):
        made = read_journal(text=text)
        self.assertIsInstance(made, House)
        self.assertTrue(made == house)
        self.check_same(journal(made), text)
        self.check_same(seen(made), seen(house))
        for call in (audit, cure, spread, needed):
            self.check_same(call(made), call(house))
        # It goes on alike: all can be taken back, and done again.
        self.check_raises(NothingToRedo, None, made.redo)
        held = Model(model.first)
        held.deeds = list(model.deeds)
        while held.deeds:
            self.check_undo(made, held)
            self.check_seen(made, held)
        self.check_raises(NothingToUndo, None, made.undo)
        while held.undone:
            self.check_redo(made, held)
        self.assertTrue(made == house)

    def test_what_is_taken_back_is_not_told(self):
        house = House(ASKED)
        self.check_same(journal(house), ASKED.text + "\nhouse")
        house.put(0, "10")
        text = journal(house)
        house.fall("a")
        house.undo()
        self.check_same(journal(house), text)
        with house.trial():
            house.fall("b")
            self.check_same(journal(house), text + "\nfall b")
        house.read(0, None)
        self.check_same(journal(house), text)
        house.redo()
        self.check_same(journal(house), text + "\nfall a")

    def test_the_first_store_is_told(self):
        house = House(SECOND)
        house.put(0, "10")
        house.lead(THIRD, 0, 0)
        house.mend("a", ())
        house.mend("c", ("a", "b"))
        self.check_same(journal(house), SECOND.text + "\nhouse\nput 0 10\nlead b.d/c.d 0 0\nmend a\nmend c a b")
        wide = House(SMALL)
        wide.lead(SMALL, 1, 0)
        self.check_same(journal(wide).split("\n")[-1], "lead a.b.c,d/a.b.d,a.b.c.d 1 0")
        self.assertTrue(read_journal(journal(wide)) == wide)
        self.check_same(read_journal(journal(house)).store.text, THIRD.text)

    def test_long_ones(self):
        """Three thousand characters are read back."""
        house = House(CROSSING)
        for number in range(20):
            house.put(number % 2, format(number % 4, "02b"))
        draw = random.Random(9)
        while len(journal(house)) < 2950:
            keeper = draw.choice("abcd")
            if keeper in house.down:
                house.rise(keeper)
            elif draw.random() < 0.5:
                house.lose(keeper)
            else:
                house.mend(keeper, tuple(name for name in "abcd" if name != keeper and name not in house.down))
        made = read_journal(journal(house))
        self.assertTrue(made == house)
        self.check_same(seen(made), seen(house))
        self.assertGreater(house.done, 200)
        while made.done:
            made.undo()
        self.check_same(seen(made), seen(House(CROSSING)))


class TestReadJournal(HouseChecks, unittest.TestCase):
    def check_text(self, text):
        number = wrong_number(text)
        if number is None:
            self.check_same(journal(read_journal(text)), text)
        else:
            self.check_raises(BadJournal, number, read_journal, text)
            self.check_raises(BadJournal, number, read_journal, text=text)
        return number

    def test_variants_of_drawn_ones(self):
        draw = random.Random(48)
        numbers = []
        for house, _ in drawn_houses(120, 49, 12):
            lines = journal(house).split("\n")
            for _ in range(15):
                held = variants(draw, lines)
                if draw.random() < 0.3:
                    held = variants(draw, held or [""])
                numbers.append(self.check_text("\n".join(held)))
        self.assertGreater(numbers.count(None), 50)
        self.assertGreater(len(set(numbers)), 20)

    def test_each_line_out_and_twice(self):
        house = House(CROSSING)
        for deed in (("fall", "b"), ("put", 0, "10"), ("rise", "b"), ("give", 1, "b"), ("lose", "a"),
                     ("mend", "a", ("b", "c")), ("read", 0, 1),
                     ("let_go", 1), ("lead", CROSSING, 0, 1)):
            house_call(house, deed)
        lines = journal(house).split("\n")
        for place in range(len(lines)):
            for held in (lines[:place] + lines[place + 1:], lines[:place + 1] + lines[place:], lines[:place], lines[place:],
                         lines[:place] + ["house"] + lines[place:], lines[:place] + [""] + lines[place:],
                         lines[:place] + [" " + lines[place]] + lines[place + 1:],
                         lines[:place] + [lines[place] + " "] + lines[place + 1:],
                         lines[:place] + [lines[place].replace(" ", "  ", 1)] + lines[place + 1:]):
                self.check_text("\n".join(held))

    def test_no_strings(self):
        for value in [value for value in junk() if not isinstance(value, str)] + [[HEAD], (HEAD,), House(ASKED), ASKED,
                                                                                  deep(30)]:
            self.check_raises(BadJournal, 0, read_journal, value)
            self.check_raises(BadJournal, 0, read_journal, text=value)

    def test_no_line_house(self):
        for text, number in (("", 2), ("x", 2), ("\n", 3), (CROSSING.text, len(CROSSING.text.split("\n")) + 1), ("house ", 2),
                             (" house", 2),
                             ("House", 2), ("parts x\nparts x\nhouses", 4),
                             (HEAD.replace("house", "hous") + "fall a", FIRST_LINE + 1)):
            self.check_raises(BadJournal, number, read_journal, text)
            self.assertEqual(wrong_number(text), number)

    def test_two_lines_house(self):
        self.check_raises(BadJournal, FIRST_LINE, read_journal, HEAD + "house")
        self.check_raises(BadJournal, FIRST_LINE + 1, read_journal, HEAD + "fall a\nhouse\nrise a")
        self.check_raises(BadJournal, 1, read_journal, "house\nhouse")

    def test_no_store_ahead(self):
        self.check_raises(BadJournal, 1, read_journal, "house")
        self.check_raises(BadJournal, 1, read_journal, "house\nput 0 00")
        self.check_raises(BadJournal, 1, read_journal, "\nhouse")
        lines = CROSSING.text.split("\n")
        for many in range(1, len(lines)):
            text = "\n".join(lines[:many] + ["house"])
            self.check_raises(BadJournal, wrong_number(text), read_journal, text) if wrong_number(text) else read_journal(text)
        # The first line that is none, whatever stands behind it.
        self.check_raises(BadJournal, 2, read_journal, "parts x\nkeeper\nhouse\nx")
        self.check_raises(BadJournal, 3, read_journal, SHELF.text.replace("keeper b y", "keeper b z") + "\nhouse\n")
        # A line is missing where the line `house` stands.
        self.check_raises(BadJournal, 6, read_journal, SHELF.text + "\nhouse")

    def test_stores_that_are_not_sound(self):
        for store in (STORE, FULL):
            number = len(store.text.split("\n")) + 1
            for more in ("", "\n", "\nfall a", "\nx", "\nhouse"):
                self.check_raises(BadJournal, number, read_journal, store.text + "\nhouse" + more)

    def test_forms(self):
        """Lines that have no form, or words otherwise."""
        for line in ("", " ", "put", "put 0", "put 0 00 0", "put  0 00", "put 0  00", " put 0 00", "put 0 00 ", "Put 0 00",
                     "put +0 00", "put -0 00",
                     "put 00 00", "put 0x0 00", "put 0.0 00", "put 0_0 00", "put a 00", "put -1 00", "put 2 00", "put 0 0",
                     "put 0 000", "put 0 02",
                     "put 00 0", "give", "give 1", "give 1 a", "give 0 a", "fall", "fall z", "fall a b", "rise", "rise a",
                     "rise z", "lose", "lose z",
                     "lose a b", "mend", "mend ", "mend z", "mend a a", "mend a c b", "mend a b b", "mend a z", "mend  a",
                     "mend a  b", "read", "read 0",
                     "read 0 0 0", "read 0 None", "read 0 2", "read 4 0", "read -1 0", "read 0 -1", "read +0 0", "read 00 0",
                     "letgo", "letgo 0",
                     "letgo 1", "letgo 1 1", "let_go 1", "lead", "lead a 0 0", "lead a/a 0 0", "lead a.b.c/a.b 0",
                     "lead a.b.c/a.b 0 0 0",
                     "lead a.b.c/a.b 0 1", "lead a.b.c/a.b 4 0", "lead a.b.c/a.b +0 0", "lead a.b.c/ 0 0", "lead /a.b 0 0",
                     "lead a.b.c//a.b 0 0",
                     "lead a.b.c/a.b/ 0 0", "lead a.b.c,/a.b 0 0", "lead a.b.c./a.b 0 0", "lead a..b.c/a.b 0 0",
                     "lead b.a.c/a.b 0 0",
                     "lead a.b.c,a.b.c/a.b 0 0", "lead a.b.c/a.b,a.b 0 0", "lead a.b.c/a.z 0 0", "undo", "redo", "audit",
                     "ended", "down", "holds a",
                     "house", "keep", "trial", "keeper a x", "write a", "ask a", "parts x y", "# fall a", "fall a # b"):
            self.check_raises(BadJournal, FIRST_LINE, read_journal, HEAD + line)
            self.check_raises(BadJournal, FIRST_LINE + 1, read_journal, HEAD + "lose a\n" + line)
            self.assertEqual(wrong_number(HEAD + line), FIRST_LINE, line)

    def test_right_lines(self):
        for line in ("put 0 00", "put 1 11", "fall a", "lose d", "mend a", "mend a b c d", "mend d a", "read 0 0", "read 3 1",
                     "lead a.b.c/a.b 0 0",
                     "lead a.b.c,a.b.c.d/a.b,b.c,a.c.d,a.b.c 3 1", "lead a.b.c.d/a.b,a.c,b.c 0 0"):
            self.check_same(journal(read_journal(HEAD + line)), HEAD + line)
            self.assertIsNone(wrong_number(HEAD + line))

    def test_names_like_words(self):
        shelf = Shelf("parts house\nkeeper house house\nkeeper put house house\nkeeper lead house")
        house = House(store_of(shelf, (("house", "put"), ("put",)), (("house", "put"), ("put",))))
        house.put(1, "1")
        house.fall("lead")
        house.mend("house", ("put",))
        house.lead(house.store, 1, 1)
        house.rise("lead")
        self.assertTrue(read_journal(journal(house)) == house)
        self.check_same(journal(house).split("\n")[-2:], ["lead house.put,put/house.put,put 1 1", "rise lead"])

    def test_a_stamp_too_many(self):
        text = ASKED.text + "\nhouse" + "\nput 0 00" * 20
        self.check_same(len(read_journal(text)), 20)
        self.check_raises(BadJournal, len(text.split("\n")) + 1, read_journal, text + "\nput 0 00")
        self.check_raises(BadJournal, len(text.split("\n")) + 1, read_journal, text + "\nput 0 00\nx")


if __name__ == "__main__":
    unittest.main()
