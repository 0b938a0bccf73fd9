"""The refusals: their classes, where they stand, the values that they bear."""

import unittest

from mainskeep import errors

PLAIN = ("NoFraction", "NoPuts", "NoBalance", "NoLine", "NoLoss", "NoText", "NoHouse", "NoRow", "NoNumber", "NoDeed")
WITH_VALUE = {"NoPaper": "at", "NoMaking": "hour"}


class TestErrors(unittest.TestCase):
    def test_all_are_a_value_error(self):
        self.assertEqual(errors.MainsError.__bases__, (ValueError,))

    def test_each_stands_straight_under_mains_error(self):
        for name in PLAIN + tuple(WITH_VALUE):
            with self.subTest(name=name):
                self.assertEqual(getattr(errors, name).__bases__, (errors.MainsError,))

    def test_each_name_is_a_class_of_its_own(self):
        kinds = [getattr(errors, name) for name in PLAIN + tuple(WITH_VALUE)]
        self.assertEqual(len(set(kinds)), 12)
        for name, kind in zip(PLAIN + tuple(WITH_VALUE), kinds):
            self.assertEqual(kind.__name__, name)

    def test_none_is_taken_as_another_one(self):
        names = PLAIN + tuple(WITH_VALUE)
        for name in names:
            for other in names:
                with self.subTest(name=name, other=other):
                    self.assertEqual(issubclass(getattr(errors, name), getattr(errors, other)), name == other)

    def test_plain_ones_can_be_made_and_raised(self):
        for name in PLAIN:
            with self.subTest(name=name):
                with self.assertRaises(errors.MainsError):
                    raise getattr(errors, name)("why")

    def test_values_are_set_when_made(self):
        for name, value in WITH_VALUE.items():
            for number in (0, 1, 2, 3):
                with self.subTest(name=name, number=number):
                    self.assertEqual(getattr(getattr(errors, name)(number), value), number)

    def test_values_come_along_when_raised(self):
        with self.assertRaises(errors.NoPaper) as paper:
            raise errors.NoPaper(3)
        self.assertEqual(paper.exception.at, 3)
        with self.assertRaises(errors.NoMaking) as making:
            raise errors.NoMaking(2)
        self.assertEqual(making.exception.hour, 2)

    def test_two_objects_keep_their_own_values(self):
        first, second = errors.NoPaper(1), errors.NoPaper(2)
        self.assertEqual((first.at, second.at), (1, 2))


if __name__ == "__main__":
    unittest.main()
