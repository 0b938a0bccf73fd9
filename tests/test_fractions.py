"""Points 2 and 4: whole numbers, fractions, what is reckoned with them."""

import fractions as reference
import math
import unittest

from mainskeep.errors import NoFraction
from mainskeep.fractions import fraction, is_fraction, is_less, minus, over, plus, times

LONG = 10 ** 40 - 1
# Powers, so that long parts have long common divisors too.
LONG_PARTS = (LONG, -LONG, 2 ** 132, -(2 ** 131), 3 ** 83, 6 ** 51, 10 ** 39, -(10 ** 39), 10 ** 39 + 1, 7 ** 47)


def worth(top, bottom):
    found = reference.Fraction(top, bottom)
    return (found.numerator, found.denominator)


def small_fractions():
    return sorted({worth(top, bottom) for top in range(-6, 7) for bottom in range(1, 6)})


def long_fractions():
    return [worth(top, bottom) for top in LONG_PARTS + (0, 1) for bottom in LONG_PARTS[:5]]


class FractionTest(unittest.TestCase):
    def assert_fraction(self, found, wanted):
        self.assertEqual(found, wanted)
        self.assertIs(type(found), tuple)
        self.assertEqual([type(part) for part in found], [int, int])
        self.assertGreaterEqual(found[1], 1)
        self.assertEqual(math.gcd(*found), 1)


class TestFraction(FractionTest):
    def test_ordinary(self):
        self.assert_fraction(fraction(1, 2), (1, 2))
        self.assert_fraction(fraction(6, 4), (3, 2))
        self.assert_fraction(fraction(12, 18), (2, 3))
        self.assert_fraction(fraction(5, 7), (5, 7))

    def test_whole(self):
        self.assert_fraction(fraction(7, 1), (7, 1))
        self.assert_fraction(fraction(12, 4), (3, 1))
        self.assert_fraction(fraction(-12, 4), (-3, 1))

    def test_signs(self):
        self.assert_fraction(fraction(-6, 4), (-3, 2))
        self.assert_fraction(fraction(6, -4), (-3, 2))
        self.assert_fraction(fraction(-6, -4), (3, 2))
        self.assert_fraction(fraction(1, -1), (-1, 1))
        self.assert_fraction(fraction(-1, -1), (1, 1))

    def test_nought(self):
        for bottom in (1, -1, 2, -5, LONG, -LONG):
            with self.subTest(bottom=bottom):
                self.assert_fraction(fraction(0, bottom), (0, 1))

    def test_all_small_ones(self):
        for top in range(-30, 31):
            for bottom in range(-30, 31):
                if bottom != 0:
                    self.assert_fraction(fraction(top, bottom), worth(top, bottom))

    def test_long_parts(self):
        for top in LONG_PARTS:
            for bottom in LONG_PARTS:
                self.assert_fraction(fraction(top, bottom), worth(top, bottom))
        self.assert_fraction(fraction(LONG, LONG), (1, 1))
        self.assert_fraction(fraction(LONG, -LONG), (-1, 1))

    def test_bottom_nought_is_refused(self):
        for top in (0, 1, -1, 5, LONG, -LONG):
            with self.subTest(top=top):
                with self.assertRaises(NoFraction):
                    fraction(top, 0)


class TestReckoning(FractionTest):
    def assert_all_reckoned(self, parts):
        for u in parts:
            for v in parts:
                one, other = reference.Fraction(*u), reference.Fraction(*v)
                self.assert_fraction(plus(u, v), (one + other).as_integer_ratio())
                self.assert_fraction(minus(u, v), (one - other).as_integer_ratio())
                self.assert_fraction(times(u, v), (one * other).as_integer_ratio())
                if other != 0:
                    self.assert_fraction(over(u, v), (one / other).as_integer_ratio())
                self.assertIs(is_less(u, v), one < other)

    def test_plus(self):
        self.assert_fraction(plus((1, 2), (1, 3)), (5, 6))
        self.assert_fraction(plus((1, 6), (1, 3)), (1, 2))
        self.assert_fraction(plus((1, 2), (1, 2)), (1, 1))
        self.assert_fraction(plus((1, 2), (-1, 2)), (0, 1))
        self.assert_fraction(plus((0, 1), (-3, 7)), (-3, 7))

    def test_minus(self):
        self.assert_fraction(minus((1, 2), (1, 3)), (1, 6))
        self.assert_fraction(minus((1, 3), (1, 2)), (-1, 6))
        self.assert_fraction(minus((5, 7), (5, 7)), (0, 1))
        self.assert_fraction(minus((0, 1), (-3, 7)), (3, 7))

    def test_times(self):
        self.assert_fraction(times((2, 3), (3, 4)), (1, 2))
        self.assert_fraction(times((-2, 3), (-3, 2)), (1, 1))
        self.assert_fraction(times((-2, 3), (5, 1)), (-10, 3))
        self.assert_fraction(times((0, 1), (-3, 7)), (0, 1))

    def test_over(self):
        self.assert_fraction(over((1, 2), (1, 3)), (3, 2))
        self.assert_fraction(over((1, 2), (-1, 3)), (-3, 2))
        self.assert_fraction(over((-1, 2), (-1, 2)), (1, 1))
        self.assert_fraction(over((0, 1), (-3, 7)), (0, 1))

    def test_over_nought_is_refused(self):
        for u in ((0, 1), (1, 1), (-1, 1), (5, 7), (-LONG, 2), (1, LONG)):
            with self.subTest(u=u):
                with self.assertRaises(NoFraction):
                    over(u, (0, 1))

    def test_is_less(self):
        self.assertIs(is_less((1, 3), (1, 2)), True)
        self.assertIs(is_less((1, 2), (1, 3)), False)
        self.assertIs(is_less((1, 2), (1, 2)), False)
        self.assertIs(is_less((-1, 2), (-1, 3)), True)
        self.assertIs(is_less((-1, 3), (-1, 2)), False)
        self.assertIs(is_less((-1, 2), (0, 1)), True)
        self.assertIs(is_less((0, 1), (0, 1)), False)

    def test_is_less_goes_by_worth_not_as_tuples_do(self):
        self.assertIs(is_less((3, 10), (2, 5)), True)
        self.assertIs(is_less((2, 5), (3, 10)), False)

    def test_is_less_of_long_neighbours(self):
        self.assertIs(is_less((LONG - 1, LONG), (1, 1)), True)
        self.assertIs(is_less((LONG - 2, LONG - 1), (LONG - 1, LONG)), True)
        self.assertIs(is_less((LONG - 1, LONG), (LONG - 2, LONG - 1)), False)

    def test_all_small_ones(self):
        self.assert_all_reckoned(small_fractions())

    def test_long_ones(self):
        self.assert_all_reckoned(long_fractions())

    def test_what_was_told_is_handed_in_again(self):
        found, wanted = (1, 3), reference.Fraction(1, 3)
        for step in range(1, 8):
            found = plus(times(found, found), over((step, LONG), found))
            wanted = wanted * wanted + reference.Fraction(step, LONG) / wanted
            self.assert_fraction(found, wanted.as_integer_ratio())
            self.assertIs(is_fraction(found), True)


class TestIsFraction(unittest.TestCase):
    def assert_none_is(self, things):
        for thing in things:
            with self.subTest(thing=thing):
                self.assertIs(is_fraction(thing), False)

    def test_fractions(self):
        for thing in ((0, 1), (1, 1), (-1, 1), (1, 2), (-3, 2), (7, 1), (LONG, 1), (1, LONG), (-LONG, LONG - 1)):
            with self.subTest(thing=thing):
                self.assertIs(is_fraction(thing), True)

    def test_all_small_tuples(self):
        for top in range(-12, 13):
            for bottom in range(-12, 13):
                wanted = bottom >= 1 and math.gcd(top, bottom) == 1
                self.assertIs(is_fraction((top, bottom)), wanted, (top, bottom))

    def test_what_is_told_is_one(self):
        for u in small_fractions() + long_fractions():
            self.assertIs(is_fraction(u), True)

    def test_common_divisor(self):
        self.assert_none_is([(2, 2), (2, 4), (-2, 4), (0, 2), (0, LONG), (LONG, LONG), (6 ** 51, 3 ** 83)])

    def test_bottom_below_one(self):
        self.assert_none_is([(0, 0), (1, 0), (-1, 0), (1, -1), (1, -2), (-1, -2), (0, -1), (1, -LONG)])

    def test_truths_for_parts(self):
        self.assert_none_is([(True, 1), (False, 1), (1, True), (0, True), (True, True), (True, 2), (1, False)])

    def test_other_parts(self):
        self.assert_none_is([(None, 1), (1, None), ("1", 1), (1, "1"), ("1", "2"), ([1], 2), (1, [2]), ([1], [2]),
                             ((1,), 2), (1, (2,)), ((1, 1), (1, 1)), ((1, 2), 1)])

    def test_a_part_more_or_less(self):
        self.assert_none_is([(), (1,), (0,), (1, 2, 3), (0, 1, 1), (1, 2, None), (1, 1) * 50])

    def test_lists(self):
        self.assert_none_is([[1, 2], [0, 1], [], [1], [(1, 2)], [[1, 2]]])

    def test_other_things(self):
        self.assert_none_is([None, True, False, 0, 1, -1, LONG, "", "12", "(1, 2)", "1/2", [None] * 10000])

    def test_nothing_within_is_changed(self):
        part = [1]
        thing = (part, 2)
        is_fraction(thing)
        self.assertEqual(thing, ([1], 2))


if __name__ == "__main__":
    unittest.main()
