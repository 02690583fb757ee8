"""Section 10: what answers tell."""

import itertools
import unittest

from helper import Checks, all_lots, deep, one_of
from lotkeepers.answers import differ, fitting, shows_told, told
from lotkeepers.errors import BadAnswers, BadRecord
from lotkeepers.shelves import answer
from test_bringing import NEVER, sums_of
from test_shelves import NO_RECORDS, SHELF, SHELVES, all_records, value_of

NO_ANSWERS = [
    [], None, True, 0, "", "a", {}, {"a": "1"}, ("a",), ("a", "1"), (("a",),), (("a", "1", "0"),), [("a", "1")], (["a", "1"],),
    (("z", "1"),), (("a", ""),), (("a", "10"),), (("a", "2"),), (("a", 1),), (("a", True),), (("a", ("1",)),), (("a", ["1"]),),
    (("d", "1"),), (("d", "101"),), (("d", "1 "),), (("a", "1"), ("a", "1")), (("a", "1"), ("a", "0")), (("b", "1"), ("a", "1")),
    (("a", "1"), ("d", "10"), ("c", "1")), (("a", "1"), None), ((1, "1"),), (("a", None),), ((["a"], "1"),), ((("a",), "1"),),
    ((None, "1"),), (("a", "1"), ["b", "1"]), deep(30), (deep(30),), ((),), (("a", "1"), ()), ((("a", "1"),),), ("ab", "1"),
]


def all_answers(shelf, lot):
    """All answers that a lot may give, also such as no record fits."""
    rows = [["".join(signs) for signs in itertools.product("01", repeat=len(shelf.pieces[shelf.circle.names.index(keeper)]))]
            for keeper in lot]
    return [tuple(zip(lot, row)) for row in itertools.product(*rows)]


def true_answer(shelf, keeper, record):
    return "".join(str(value_of(shelf, piece, record)) for piece in shelf.pieces[shelf.circle.names.index(keeper)])


def fits(shelf, answers):
    return [record for record in all_records(shelf) if all(true_answer(shelf, keeper, record) == row for keeper, row in answers)]


def torn_sums(shelf, answers):
    """All sums of spots that come to no part, while an odd number of their values are 1."""
    values = {(keeper, number): sign for keeper, row in answers for number, sign in enumerate(row)}
    lot = tuple(keeper for keeper, _ in answers)
    return [some for some, comes in sums_of(shelf, lot) if comes == () and [values[spot] for spot in some].count("1") % 2]


def right_ones(shelf, answers):
    held = fits(shelf, answers)
    if len(held) == 1:
        return [("record", held[0])]
    if held:
        return [("open", one, other) for one in held for other in held if one != other]
    return [("torn", some) for some in torn_sums(shelf, answers)]


class TestTold(Checks, unittest.TestCase):
    def check_answers(self, shelf, answers, near_too):
        rights = right_ones(shelf, answers)
        made = told(shelf=shelf, answers=answers)
        self.assertTrue(one_of(rights)(made), (shelf.text, answers, made))
        for value in rights:
            self.assertIs(shows_told(shelf=shelf, answers=answers, value=value), True)
        if near_too:
            self.check_shows(shows_told, (shelf, answers), one_of(rights), rights[:3] + rights[-1:])
            for value in [("record", record) for record in all_records(shelf)] + [("open", "00", "00"), ("open", "00", "11")]:
                self.assertIs(shows_told(shelf, answers, value), one_of(rights)(value))

    def test_all_answers_of_a_small_shelf(self):
        for lot in all_lots(SHELF.circle.names):
            for answers in all_answers(SHELF, lot):
                self.check_answers(SHELF, answers, True)

    def test_other_shelves(self):
        for shelf in SHELVES[1:3] + SHELVES[4:] + NEVER:
            for lot in all_lots(shelf.circle.names):
                for answers in all_answers(shelf, lot)[::3]:
                    self.check_answers(shelf, answers, False)
        for lot in all_lots(SHELVES[3].circle.names)[::5]:
            for answers in all_answers(SHELVES[3], lot)[::41]:
                self.check_answers(SHELVES[3], answers, False)

    def test_there_are_all_kinds(self):
        kinds = {told(SHELF, answers)[0] for lot in all_lots(SHELF.circle.names) for answers in all_answers(SHELF, lot)}
        self.assertEqual(kinds, {"record", "open", "torn"})
        self.assertEqual(told(SHELF, ())[0], "open")
        self.assertIs(shows_told(SHELF, (), ("open", "00", "11")), True)
        self.assertIs(shows_told(SHELF, (), ("torn", ())), False)
        alike_pieces = SHELVES[2]
        self.check_same(told(alike_pieces, (("a", "01"),)), ("torn", (("a", 0), ("a", 1))))
        self.assertIs(shows_told(alike_pieces, (("a", "01"),), ("torn", (("a", False), ("a", True)))), False)
        self.assertIs(shows_told(alike_pieces, (("a", "01"), ("b", "01")), ("torn", (("a", 0), ("a", 1)))), True)
        both_pairs = (("a", 0), ("a", 1), ("b", 0), ("b", 1))
        self.assertIs(shows_told(alike_pieces, (("a", "01"), ("b", "01")), ("torn", both_pairs)), False)
        self.assertIs(shows_told(alike_pieces, (("a", "01"),), ("torn", (("b", 0), ("b", 1)))), False)

    def test_wrong_answers(self):
        for call in (told, fitting, lambda shelf, answers: shows_told(shelf, answers, ("record", "00"))):
            self.check_refuses(BadAnswers, NO_ANSWERS, lambda value: call(SHELF, value))
            self.check_refuses(BadAnswers, NO_ANSWERS, lambda value: call(shelf=SHELF, answers=value))


class TestFittingAndDiffer(Checks, unittest.TestCase):
    def test_all_answers(self):
        for shelf in [SHELF] + NEVER[:2]:
            for lot in all_lots(shelf.circle.names):
                for answers in all_answers(shelf, lot):
                    self.check_same(fitting(shelf=shelf, answers=answers), len(fits(shelf, answers)))
                    for record in all_records(shelf):
                        right = tuple(name for name, row in answers if row != true_answer(shelf, name, record))
                        self.check_same(differ(shelf=shelf, answers=answers, record=record), right)

    def test_what_is_answered_fits(self):
        for shelf in SHELVES:
            for record in all_records(shelf):
                answers = tuple((keeper, answer(shelf, keeper, record)) for keeper in shelf.circle.names)
                self.check_same(differ(shelf, answers, record), ())
                self.check_same(told(shelf, answers), ("record", record))
                self.check_same(fitting(shelf, answers), 1)
            self.check_same(fitting(shelf, ()), 2 ** len(shelf.parts))

    def test_wrong_ones(self):
        self.check_refuses(BadAnswers, NO_ANSWERS, lambda value: differ(SHELF, value, "01"))
        self.check_refuses(BadRecord, NO_RECORDS, lambda value: differ(SHELF, (("a", "1"),), value))
        self.check_refuses(BadRecord, NO_RECORDS, lambda value: differ(SHELF, (), value))
        for record in NO_RECORDS:
            self.check_refuses(BadAnswers, NO_ANSWERS, lambda value: differ(SHELF, value, record))


if __name__ == "__main__":
    unittest.main()
