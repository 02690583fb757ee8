"""Section 27: who lied."""

import itertools
import unittest

from helper import Checks, all_lots, one_of
from lotkeepers.errors import BadAnswers, BadBound, Unbelieved
from lotkeepers.liars import asked_more, liars
from lotkeepers.shelves import Shelf
from test_answers import NO_ANSWERS, all_answers
from test_bringing import NEVER, small_shelves
from test_lies import BOUNDS, KEEP, NO_BOUNDS, TWO_EACH, liars_by, right_believed
from test_shelves import SHELF

TURNED = Shelf("parts x y\nkeeper d x\nkeeper b y\nkeeper c x+y\nkeeper a x y")
SHELVES = list(small_shelves())[::7] + [KEEP, SHELF, TURNED, TWO_EACH] + NEVER[:1]


def right_liars(shelf, answers, bound):
    """By the words of the section: who lied by all, by none, and by some of the records that are believed."""
    rows = [liars_by(shelf, answers, record) for record in right_believed(shelf, answers, bound)]
    lied, honest, perhaps = [], [], []
    for keeper, _ in answers:
        times = sum(keeper in row for row in rows)
        (lied if times == len(rows) else honest if times == 0 else perhaps).append(keeper)
    return tuple(lied), tuple(honest), tuple(perhaps)


def right_more(shelf, answers, bound):
    """Who leaves fewer, whatever it tells, by all values that it may tell."""
    held = dict(answers)
    many = len(right_believed(shelf, answers, bound))
    found = []
    for keeper, row in zip(shelf.circle.names, shelf.pieces):
        if keeper in held:
            continue
        counts = []
        for values in itertools.product("01", repeat=len(row)):
            grown = dict(held, **{keeper: "".join(values)})
            counts.append(len(right_believed(shelf, tuple((name, grown[name]) for name in shelf.circle.names if name in grown),
                                             bound)))
        if max(counts) < many:
            found.append(keeper)
    return tuple(sorted(found))


class TestLiars(Checks, unittest.TestCase):
    def test_against_all_records_and_all_further_answers(self):
        held = {"liars": 0, "perhaps": 0, "more": 0, "never": 0}
        for shelf in SHELVES:
            for lot in all_lots(shelf.circle.names):
                for answers in all_answers(shelf, lot):
                    for bound in BOUNDS:
                        if not right_believed(shelf, answers, bound):
                            held["never"] += 1
                            self.check_raises(Unbelieved, bound, liars, shelf, answers, bound)
                            self.check_raises(Unbelieved, bound, asked_more, shelf, answers, bound)
                            continue
                        right = right_liars(shelf, answers, bound)
                        more = right_more(shelf, answers, bound)
                        held["liars"] += right[0] != ()
                        held["perhaps"] += right[2] != ()
                        held["more"] += more != ()
                        self.check_same(liars(shelf=shelf, answers=answers, bound=bound), right)
                        self.check_same(asked_more(shelf=shelf, answers=answers, bound=bound), more)
        self.assertGreater(min(held.values()), 50, held)

    def test_nobody_at_all(self):
        for shelf in SHELVES:
            for bound in BOUNDS:
                self.check_same(liars(shelf, (), bound), ((), (), ()))
                self.check_same(asked_more(shelf, (), bound), right_more(shelf, (), bound))
        self.check_same(asked_more(KEEP, (), 0), ("a", "b", "c", "d"))
        self.check_same(asked_more(KEEP, (), 1), ())

    def test_names_in_another_sequence_than_in_the_shelf(self):
        self.check_same(asked_more(TURNED, (), 0), ("a", "b", "c", "d"))
        self.check_same(asked_more(TURNED, (("c", "1"),), 0), ("a", "b", "d"))
        shelf = Shelf("parts x\nkeeper zeta x\nkeeper b x\nkeeper abc x\nkeeper ab x")
        self.check_same(asked_more(shelf, (("b", "1"),), 0), ())
        self.check_same(asked_more(shelf, (("zeta", "1"), ("b", "0")), 1), ("ab", "abc"))
        self.check_same(liars(shelf, (("zeta", "1"), ("b", "0"), ("ab", "0")), 1), (("zeta",), ("b", "ab"), ()))
        self.check_same(liars(shelf, (("zeta", "1"), ("b", "0")), 1), ((), (), ("zeta", "b")))

    def test_perhaps_none_are_left(self):
        # One that tells otherwise leaves none, one that tells alike leaves as many: it does not count.
        self.check_same(asked_more(KEEP, (("a", "1"),), 0), ())
        # Here whatever is told leaves none or one of two.
        self.check_same(asked_more(KEEP, (("a", "1"), ("b", "0")), 1), ("c", "d"))
        self.check_same(liars(KEEP, (("a", "1"), ("b", "0"), ("c", "1")), 2), ((), (), ("a", "b", "c")))

    def test_unbelieved(self):
        for bound, answers in ((0, (("a", "1"), ("b", "0"))), (1, (("a", "1"), ("b", "0"), ("c", "1"), ("d", "0")))):
            for call in (liars, asked_more):
                self.check_raises(Unbelieved, bound, call, KEEP, answers, bound)
                self.check_raises(Unbelieved, bound, call, bound=bound, answers=answers, shelf=KEEP)

    def test_wrong_arguments(self):
        for call in (liars, asked_more):
            self.check_refuses(BadAnswers, NO_ANSWERS, lambda value: call(SHELF, value, 1))
            self.check_refuses(BadBound, NO_BOUNDS, lambda value: call(SHELF, (("a", "1"), ("b", "1"), ("c", "1")), value))
            self.check_refuses(BadBound, NO_BOUNDS, lambda value: call(bound=value, answers=(), shelf=SHELF))
            for bound in NO_BOUNDS:
                self.check_refuses(BadAnswers, NO_ANSWERS[::4], lambda value: call(SHELF, value, bound))

    def test_each_keeper_is_in_one_of_the_three(self):
        for answers in all_answers(TURNED, TURNED.circle.names):
            for bound in (1, 2, 3):
                if right_believed(TURNED, answers, bound):
                    rows = liars(TURNED, answers, bound)
                    self.assertEqual(sorted(name for row in rows for name in row), ["a", "b", "c", "d"])
                    self.assertTrue(all(one_of(all_lots(TURNED.circle.names))(row) for row in rows))


if __name__ == "__main__":
    unittest.main()
