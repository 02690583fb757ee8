"""Section 42: the errors."""

import inspect
import unittest

from helper import junk
from lotkeepers import errors
from lotkeepers.errors import LotError

NAMES = """
BadNames BadLot BadLots BadFamily Unmet BadChance BadShelf NoKeeper BadRecord BadSum NeverBack BadAnswers OtherShelf
BadChanges BadStore Held Full NoLot Last Unsound BadNumber Unserved BadPrices BadOffers BadWishes BadChoice BadRun
NoRead NoStamp BadHistory NoTurn TooLong BadState BadBound NeverSure Unbelieved BadHolding Unsafe BadHelpers NoHelp
NoPlan BadWay TooMany BadSteps TooFew Emptied BadName BadPieces TooManyKeepers NotOf Down IsUp Misses Older
NothingToUndo NothingToRedo NoTrial BadJournal BadLine
""".split()


class TestErrors(unittest.TestCase):
    def test_all_are_there_and_no_others(self):
        held = [name for name, kind in vars(errors).items() if inspect.isclass(kind)]
        self.assertEqual(sorted(held), sorted(NAMES + ["LotError"]))

    def test_base_derives_directly_from_value_error(self):
        self.assertEqual(LotError.__bases__, (ValueError,))

    def test_each_derives_directly_from_base(self):
        for name in NAMES:
            self.assertEqual(getattr(errors, name).__bases__, (LotError,), name)

    def test_each_is_defined_there_by_its_name(self):
        for name in NAMES + ["LotError"]:
            kind = getattr(errors, name)
            self.assertEqual((kind.__module__, kind.__name__), ("lotkeepers.errors", name))

    def test_each_keeps_the_very_value(self):
        for name in NAMES + ["LotError"]:
            for value in junk():
                self.assertIs(getattr(errors, name)(value).value, value)

    def test_each_takes_one_argument(self):
        for name in NAMES + ["LotError"]:
            for some in ((), (1, 2)):
                with self.assertRaises(TypeError):
                    getattr(errors, name)(*some)

    def test_each_can_be_raised_and_caught(self):
        for name in NAMES:
            with self.assertRaises(LotError) as caught:
                raise getattr(errors, name)(("a", 1))
            self.assertEqual(caught.exception.value, ("a", 1))


if __name__ == "__main__":
    unittest.main()
