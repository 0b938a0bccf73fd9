"""The refusals: their classes, where they stand, the values that they bear."""

import unittest

from mainskeep import errors
from mainskeep.desk import Desk
from mainskeep.fractions import fraction, over
from mainskeep.looker import look
from mainskeep.money import settled
from mainskeep.nets import without
from mainskeep.streams import behind_loss, heights, streams
from mainskeep.texts import read_house

PLAIN = ("NoFraction", "NoPuts", "NoBalance", "NoLine", "NoLoss", "NoText", "NoHouse", "NoRow", "NoNumber", "NoDeed")
WITH_VALUE = {"NoPaper": "at", "NoMaking": "hour"}

PAIR = (2, ((0, 1, 1, 10),))
HOUSE = (PAIR, (), None, ((),))
RUN = ((0, 1), [(((), 0), [], ((0, 1), ()))])
TEXT = "net 2\nline 0 1 1 10\nhour"
EVEN = [(0, 1), (0, 1)]
# What is asked, and the name of the refusal.
REFUSED = (
    (lambda: fraction(1, 0), "NoFraction"), (lambda: over((1, 1), (0, 1)), "NoFraction"),
    (lambda: heights(PAIR, None), "NoPuts"), (lambda: streams(PAIR, [(1, 1), (0, 1)]), "NoBalance"),
    (lambda: without(PAIR, 1), "NoLine"), (lambda: without(PAIR, 0), "NoLoss"),
    (lambda: behind_loss(PAIR, EVEN, True), "NoLine"), (lambda: behind_loss(PAIR, EVEN, 0), "NoLoss"),
    (lambda: look(HOUSE, ()), "NoPaper"), (lambda: settled(HOUSE, RUN, (((0, 1, 100),),)), "NoMaking"),
    (lambda: read_house(0), "NoText"), (lambda: read_house("net 2\nhour"), "NoHouse"),
    (lambda: Desk(None), "NoText"), (lambda: Desk("net 1"), "NoHouse"),
    (lambda: Desk(TEXT).say(None), "NoRow"), (lambda: Desk(TEXT).say("lose 1"), "NoNumber"),
    (lambda: Desk(TEXT).say("lose 0"), "NoLoss"), (lambda: Desk(TEXT).say("undo"), "NoDeed"),
)


class TestErrors(unittest.TestCase):
    def test_all_are_a_value_error(self):
        self.assertEqual(errors.MainsError.__bases__, (ValueError,))

    def test_each_stands_straight_under_mains_error(self):
        for name in PLAIN + tuple(WITH_VALUE):
            with self.subTest(name=name):
                self.assertEqual(getattr(errors, name).__bases__, (errors.MainsError,))

    def test_each_name_is_a_class_of_its_own(self):
        kinds = [getattr(errors, name) for name in PLAIN + tuple(WITH_VALUE)]
        self.assertEqual(len(set(kinds)), 12)
        for name, kind in zip(PLAIN + tuple(WITH_VALUE), kinds):
            self.assertEqual(kind.__name__, name)

    def test_none_is_taken_as_another_one(self):
        names = PLAIN + tuple(WITH_VALUE)
        for name in names:
            for other in names:
                with self.subTest(name=name, other=other):
                    self.assertEqual(issubclass(getattr(errors, name), getattr(errors, other)), name == other)

    def test_plain_ones_can_be_made_and_raised(self):
        for name in PLAIN:
            with self.subTest(name=name):
                with self.assertRaises(errors.MainsError):
                    raise getattr(errors, name)("why")

    def test_values_are_set_when_made(self):
        for name, value in WITH_VALUE.items():
            for number in (0, 1, 2, 3):
                with self.subTest(name=name, number=number):
                    self.assertEqual(getattr(getattr(errors, name)(number), value), number)

    def test_values_come_along_when_raised(self):
        with self.assertRaises(errors.NoPaper) as paper:
            raise errors.NoPaper(3)
        self.assertEqual(paper.exception.at, 3)
        with self.assertRaises(errors.NoMaking) as making:
            raise errors.NoMaking(2)
        self.assertEqual(making.exception.hour, 2)

    def test_each_refusal_is_raised_as_its_own_class_alone(self):
        self.assertEqual({name for asked, name in REFUSED}, {*PLAIN, *WITH_VALUE})
        for asked, name in REFUSED:
            with self.subTest(name=name):
                with self.assertRaises(ValueError) as caught:
                    asked()
                self.assertIs(type(caught.exception), getattr(errors, name))
                if name in WITH_VALUE:
                    self.assertIs(type(getattr(caught.exception, WITH_VALUE[name])), int)

    def test_two_objects_keep_their_own_values(self):
        first, second = errors.NoPaper(1), errors.NoPaper(2)
        self.assertEqual((first.at, second.at), (1, 2))


if __name__ == "__main__":
    unittest.main()
