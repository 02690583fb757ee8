"""Section 41: a desk."""

import random
import unittest

from helper import deep, junk
from house_model import CROSSING, HouseChecks, Model, drawn_deed, drawn_houses, first_error, seen
from lotkeepers import errors
from lotkeepers.desk import Desk
from lotkeepers.errors import BadJournal, BadLine, BadLots, BadRecord, NoKeeper, NoLot, NoStamp, NothingToRedo, NothingToUndo
from lotkeepers.houses import House
from lotkeepers.journals import journal
from test_journals import HEAD, integer_of, line_of
from test_leading import SECOND, THIRD
from test_runs import ASKED
from test_stores import STORE
from test_wellness import right_audit

NO_LINES = [
    "", " ", "x", "put", "put 0", "put 0 ", "put 0 00 0", "put  0 00", " put 0 00", "put 0 00 ", "put a 00", "put +0 00",
    "put 00 00", "put -0 00",
    "put 0x0 00", "put 1.0 00", "put 1_0 00", "PUT 0 00", "give", "give 1", "give a 1", "give 1 a b", "give 01 a", "fall",
    "fall ", "fall a b", "falla",
    "rise", "rise a b", "lose", "lose a b", "mend", "mend ", "mend a ", "mend  a", "mend a  b", "read", "read ", "read a",
    "read 0 a", "read a 0",
    "read 0 0 0", "read 00", "read +1", "read -0", "read 0 01", "read 0 None", "letgo", "letgo a", "letgo 1 1", "letgo +1",
    "let_go 1", "lead",
    "lead a/b", "lead a/b 0", "lead a/b 0 0 0", "lead a/b a 0", "lead a/b 0 a", "lead ab 0 0", "lead / 0 0", "lead a/ 0 0",
    "lead /a 0 0", "lead a//b 0 0",
    "lead a/b/c 0 0", "lead a/b/ 0 0", "lead a,/b 0 0", "lead ,a/b 0 0", "lead a/b, 0 0", "lead a,,b/c 0 0", "lead a./b 0 0",
    "lead .a/b 0 0",
    "lead a..b/c 0 0", "lead a/.b 0 0", "lead a/b. 0 0", "lead a/b,.c 0 0", "lead a/b 01 0", "lead a/b 0 -0", "undo 1",
    "undo ", " undo", "Undo", "undo undo",
    "redo 1", "redo ", "holds", "holds ", "holds a b", "holds  a", " holds a", "audit ", "audit a", "ended 1", "ended ",
    "down a", " down", "down ",
    "house", "journal", "keep", "trial", "copy", "records", "done", "store", "spread", "cure", "needed", "None", "0",
]


def answer_of(value):
    """The answer to a deed's line, by the table."""
    if value is None:
        return "ok"
    return str(value) if type(value) is int else " ".join(str(stamp) for stamp in value) or "-"


class TestDesk(HouseChecks, unittest.TestCase):
    def test_a_house_of_a_journal(self):
        for house, model in drawn_houses(40, 50, 12):
            desk = Desk(text=journal(house))
            self.assertIsInstance(desk.house, House)
            self.assertTrue(desk.house == house)
            self.check_seen(desk.house, model)

    def test_no_journals(self):
        for value in [value for value in junk() if not isinstance(value, str)] + [House(ASKED)]:
            self.check_raises(BadJournal, 0, Desk, value)
            self.check_raises(BadJournal, 0, Desk, text=value)
        for text, number in (("", 2), ("house", 1), (STORE.text + "\nhouse", 11), (ASKED.text + "\nhouse\nfall z", 11),
                             (ASKED.text, 10)):
            self.check_raises(BadJournal, number, Desk, text)

    def test_the_very_house(self):
        desk = Desk(HEAD + "put 0 10")
        house = desk.house
        self.check_same(desk.say("fall a"), "ok")
        self.check_same(house.down, ("a",))
        self.assertIs(desk.house, house)
        # What is done in the house itself is told as well.
        house.fall("b")
        self.check_same(desk.say("down"), "a b")
        with house.trial():
            self.check_same(desk.say("rise a"), "ok")
            self.check_same(desk.say("down"), "b")
        self.check_same(desk.say("down"), "a b")

    def test_drawn_lines(self):
        """Each deed's line answers as the deed returns, or raises what it raises."""
        draw = random.Random(51)
        words = set()
        for house, model in drawn_houses(80, 52, 6):
            desk = Desk(journal(house))
            for _ in range(25):
                deed = drawn_deed(draw, model.state())
                if deed[0] == "lead" and not hasattr(deed[1], "writes") or deed[0] == "read" and deed[2] is None:
                    continue
                due = first_error(model.state(), *deed)
                if due is None:
                    self.check_same(desk.say(line=line_of(deed)), answer_of(model.do(deed)))
                    words.add((deed[0], "done"))
                elif due[0] != "OtherShelf":
                    with self.assertRaises(errors.LotError) as caught:
                        desk.say(line_of(deed))
                    self.check_error(caught.exception, *due)
                    words.add((deed[0], due[0]))
                self.check_told(desk, model)
        self.assertGreater(len(words), 20)

    def check_told(self, desk, model):
        """All that is asked without a deed."""
        state = model.state()
        before = seen(desk.house)
        self.check_same(desk.say("audit"), " ".join(str(part) for part in right_audit(state)))
        self.check_same(desk.say("ended"), " ".join(str(stamp) for stamp in state.ended()) or "-")
        self.check_same(desk.say("down"), " ".join(name for name in state.names() if name in state.down) or "-")
        for keeper in state.names():
            self.check_same(desk.say("holds " + keeper), " ".join(str(stamp) for stamp in sorted(state.has[keeper] | {0})))
        for number, lot in enumerate(state.store.asks):
            fallen = state.fallen(lot)
            if fallen:
                self.check_raises(errors.Down, fallen, desk.say, f"read {number}")
            else:
                stamp = state.brings(lot)
                record = state.writes[stamp - 1][0] if stamp else "0" * len(state.store.shelf.parts)
                self.check_same(desk.say(f"read {number}"), f"{stamp} {record}")
        self.check_same(seen(desk.house), before)
        self.check_seen(desk.house, model)

    def test_each_answer(self):
        desk = Desk(CROSSING.text + "\nhouse")
        for line, answer in (("ended", "-"), ("down", "-"), ("audit", "well"), ("read 0", "0 00"), ("holds a", "0"),
                             ("fall b", "ok"), ("put 1 10", "1"),
                             ("down", "b"), ("rise b", "ok"), ("mend b a c", "1"), ("mend b a c", "-"), ("mend b", "-"),
                             ("ended", "1"), ("put 0 11", "2"),
                             ("read 2", "2 11"), ("read 2 1", "2"), ("lose a", "ok"), ("lose b", "ok"), ("audit", "ill 0 0"),
                             ("mend a c d", "1 2"),
                             ("give 1 b", "ok"), ("audit", "ill 0 1"), ("undo", "ok"), ("audit", "ill 0 0"), ("redo", "ok"),
                             ("give 2 b", "ok"),
                             ("holds b", "0 1 2"), ("letgo 2", "ok"), ("holds b", "0 2"), ("lead a.b.c/a.b,b.c 0 0", "ok"),
                             ("ended", "1 2"),
                             ("audit", "well"), ("read 1", "2 11"), ("read 1 0", "2"), ("fall d", "ok"), ("fall a", "ok"),
                             ("down", "a d")):
            self.check_same(desk.say(line), answer)
        self.check_same(desk.house.store.asks, (("a", "b"), ("b", "c")))

    def test_ten_and_more(self):
        desk = Desk(ASKED.text + "\nhouse")
        for number in range(20):
            self.check_same(desk.say("put 0 01"), str(number + 1))
        self.check_same(desk.say("holds c"), " ".join(str(stamp) for stamp in range(21)))
        self.check_same(desk.say("read 0 0"), "20")
        self.check_raises(errors.Full, 20, desk.say, "put 0 00")


class TestLines(HouseChecks, unittest.TestCase):
    def setUp(self):
        self.desk = Desk(HEAD + "put 0 10\nfall d\nput 1 01\nlose a")
        self.before = seen(self.desk.house)

    def test_lines_of_no_form(self):
        for line in NO_LINES + [line for line in junk() if isinstance(line, str)] + ["fall a\n", "\nfall a", "ended\nended",
                                                                                     "\n", "fall\na", "holds a\n"]:
            self.check_keeps(BadLine, line, self.desk.say, line)
            self.check_keeps(BadLine, line, self.desk.say, line=line)
            self.check_same(seen(self.desk.house), self.before)

    def test_no_strings(self):
        for value in [value for value in junk() if not isinstance(value, str)] + [["undo"], ("fall", "a"), b"undo", deep(30),
                                                                                  self.desk]:
            self.check_keeps(BadLine, value, self.desk.say, value)
        self.check_same(seen(self.desk.house), self.before)

    def check_due(self, error, value, line):
        """The error keeps a word of the line, or what it tells; a word may have been cut out anew."""
        with self.assertRaises(error) as caught:
            self.desk.say(line)
        self.assertIs(type(caught.exception), error)
        self.check_same(caught.exception.value, value)

    def test_lines_that_raise(self):
        for line, error, value in (
                ("put 9 00", NoLot, 9), ("put -1 00", NoLot, -1), ("put 9 zz", NoLot, 9), ("put 0 zz", BadRecord, "zz"),
                ("put 0 000", BadRecord, "000"),
                ("give 0 a", NoStamp, 0), ("give -1 z", NoStamp, -1), ("give 3 a", NoStamp, 3), ("give 1 z", NoKeeper, "z"),
                ("give 1 d", errors.NotOf, "d"),
                ("give 1 b", errors.NotOf, "b"), ("give 2 d", errors.Down, ("d",)), ("fall z", NoKeeper, "z"),
                ("fall 1", NoKeeper, "1"),
                ("fall d", errors.Down, ("d",)), ("rise z", NoKeeper, "z"), ("rise a", errors.IsUp, "a"),
                ("lose d", errors.Down, ("d",)),
                ("lose A", NoKeeper, "A"), ("mend z", NoKeeper, "z"), ("mend a a", errors.BadHelpers, ("a",)),
                ("mend a c b", errors.BadHelpers, ("c", "b")),
                ("mend a z", errors.BadHelpers, ("z",)), ("mend a d", errors.Down, ("d",)), ("mend d", errors.Down, ("d",)),
                ("read 9", NoLot, 9),
                ("read -1", NoLot, -1), ("read 2", errors.Down, ("d",)), ("read 9 9", NoLot, 9), ("read 0 9", NoLot, 9),
                ("read 0 -1", NoLot, -1),
                ("read 0 1", errors.Down, ("d",)), ("letgo 0", NoStamp, 0), ("letgo 3", NoStamp, 3),
                ("letgo -1", NoStamp, -1), ("letgo 2", errors.Unsafe, 0),
                ("lead a.b.c/b.a 0 0", BadLots, (("b", "a"),)), ("lead z/b.a 0 0", BadLots, (("z",),)),
                ("lead a,a/a 0 0", BadLots, (("a",), ("a",))),
                ("lead a.b.c/a.a 9 9", BadLots, (("a", "a"),)), ("lead A/a 0 0", BadLots, (("A",),)),
                ("lead a.b.c/a.b 9 0", NoLot, 9),
                ("lead a.b.c/a.b 0 9", NoLot, 9), ("lead a.b.c/a.b -1 -2", NoLot, -1),
                ("lead a.b.c/a.b 2 0", errors.Down, ("d",)),
                ("lead a/a.b 0 0", errors.Unsound, ("misses", 0, 0, "01")), ("holds z", NoKeeper, "z"),
                ("holds 0", NoKeeper, "0"), ("redo", NothingToRedo, None)):
            with self.subTest(line):
                self.check_due(error, value, line)
                self.check_same(seen(self.desk.house), self.before)

    def test_stores_that_miss_and_older_writes(self):
        desk = Desk(SECOND.text + "\nhouse\nfall a\nput 0 10\nrise a")
        with self.assertRaises(errors.Misses) as caught:
            desk.say("lead a.c/a.c 0 0")
        self.assertEqual(desk.house.done, 3)
        self.assertEqual(caught.exception.value[:3], ("misses", 0, 0))
        self.check_same(desk.say("lead b.d/c.d 0 0"), "ok")
        self.assertEqual(desk.house.store, THIRD)
        self.check_raises(errors.Older, 1, desk.say, "lead b.d/c.d 0 0")

    def test_undo_and_redo(self):
        desk = Desk(ASKED.text + "\nhouse")
        self.check_raises(NothingToUndo, None, desk.say, "undo")
        self.check_raises(NothingToRedo, None, desk.say, "redo")
        desk.say("put 0 10")
        desk.say("fall a")
        self.check_same(desk.say("undo"), "ok")
        # What is refused, what is no line, and what is only asked, is no deed.
        for line, error in (("fall z", NoKeeper), ("x", BadLine)):
            with self.assertRaises(error):
                desk.say(line)
        for line in ("read 0", "holds a", "audit", "ended", "down"):
            desk.say(line)
        self.check_same(desk.say("redo"), "ok")
        self.check_same(desk.say("down"), "a")
        desk.say("undo")
        desk.say("read 0 0")
        self.check_raises(NothingToRedo, None, desk.say, "redo")
        # Undo goes on to what stands in the journal.
        desk = Desk(ASKED.text + "\nhouse\nput 0 10\nfall a")
        self.check_same([desk.say("undo"), desk.say("undo"), desk.say("redo")], ["ok", "ok", "ok"])
        self.check_same(desk.house.records, ("10",))

    def test_read_with_and_without_back(self):
        self.check_same(self.desk.say("rise d"), "ok")
        done = self.desk.house.done
        self.check_same((self.desk.say("read 1"), self.desk.house.done), ("2 01", done))
        self.check_same((self.desk.say("read 1 0"), self.desk.house.done), ("2", done + 1))
        self.check_same(journal(self.desk.house).split("\n")[-1], "read 1 0")

    def test_integers_as_python_writes_them(self):
        words = ["0", "-0", "+0", "00", "1", "01", "-1", "--1", "-", "1-", "1 ", "12", "1e1", "0x1", "1_0", "one", "0.0",
                 "-01", "999999999"]
        for word in words:
            line = "letgo " + word
            if " " in word or integer_of(word) is None:
                self.check_keeps(BadLine, line, self.desk.say, line)
            else:
                with self.assertRaises((NoStamp, errors.Unsafe)):
                    self.desk.say(line)

    def test_names_of_any_signs(self):
        """A word is a word: what is no keeper is refused by the house."""
        for word in ("a,b", "a.b", "/", "-", "#", "A", "0", "abcdefghijkl", "a/b", "~"):
            for line in ("fall " + word, "holds " + word, "give 1 " + word, "mend " + word):
                self.check_due(NoKeeper, word, line)
            self.check_due(BadRecord, word, "put 0 " + word)

    def test_a_model_is_told_alike(self):
        desk = Desk(ASKED.text + "\nhouse")
        model = Model(ASKED)
        for deed in (("put", 0, "10"), ("fall", "b"), ("put", 0, "01"), ("rise", "b"), ("mend", "b", ("a", "c")),
                     ("read", 1, 0), ("lose", "c"),
                     ("let_go", 1)):
            due = first_error(model.state(), *deed)
            if due is None:
                self.check_same(desk.say(line_of(deed)), answer_of(model.do(deed)))
        self.check_seen(desk.house, model)


if __name__ == "__main__":
    unittest.main()
