import unittest

from plain import nested, odd_values
from queueloops import errors

NAMES = """LoopError, BadDevice, BadStages, BadRow, BadNumber, LacksDelay, BadService, BadSize, BadScript, BadSlot,
BadCounts, TooMany, TooGreat, BadRule, BadPair, NoPair, BadBases, BadOrder, InUse, FewLanes, UnlikeSizes, BadArrivals,
BadPlace, TooFew, NoThing, WrongKind, BadName, Held, BadDeed, BadSlots, NothingToUndo, NothingToRedo, NoNote,
BadDesk""".replace("\n", " ").split(", ")


class ErrorsTest(unittest.TestCase):
    def test_all_are_there(self):
        for name in NAMES:
            with self.subTest(name=name):
                self.assertTrue(isinstance(getattr(errors, name), type))

    def test_loop_error_derives_from_value_error(self):
        self.assertEqual(errors.LoopError.__bases__, (ValueError,))

    def test_all_others_derive_directly_from_loop_error(self):
        for name in NAMES[1:]:
            with self.subTest(name=name):
                self.assertEqual(getattr(errors, name).__bases__, (errors.LoopError,))

    def test_they_keep_any_value(self):
        values = odd_values() + [0, -5, 10 ** 40, (), (1, 2), ("queue", 1), nested(60, tuple), errors.BadRow((1,))]
        for name in NAMES:
            for value in values:
                error = getattr(errors, name)(value)
                self.assertIs(error.value, value)

    def test_they_are_created_with_one_argument(self):
        for name in NAMES:
            with self.subTest(name=name):
                with self.assertRaises(TypeError):
                    getattr(errors, name)()
                with self.assertRaises(TypeError):
                    getattr(errors, name)(1, 2)

    def test_they_are_caught_as_loop_error_and_not_as_each_other(self):
        for name in NAMES:
            for other in NAMES:
                caught = isinstance(getattr(errors, name)(0), getattr(errors, other))
                self.assertEqual(caught, other in (name, "LoopError"))


if __name__ == "__main__":
    unittest.main()
