"""Points 2, 19, 20 and 22: cases of an hour, rows of cases, states."""

import itertools
import unittest

from drawn import Numbers, assert_own, assert_unchanged, put_at
from housed import (ALONE, DARK, HOUSES, LAMP, LARGE, MILL, PAIR, QUIET, all_cases, can_go, case_base, case_blocks,
                    drawn_house, is_whole_row, lead, row_turning, rows_of, start_state)
from mainskeep.cases import base, blocks, can_be_gone, cases, is_whole, turning
from mainskeep.states import first_state, led_to

STORE = (0, 2, 1, 5, 3)
WORK = (0, 2, 3, ((10, 4),), 7, 1, 1, False)
ON, OFF = ((True,), 0), ((False,), 0)


def one_work(stay, rest, was, hours=3):
    """A house with one work, without a store."""
    return (ALONE, ((0, 2, 3, ((10, 4),), 7, stay, rest, was),), None, ((),) * hours)


def only_store(top, level, hours=3):
    """A house without works."""
    return (ALONE, (), (0, top, level, 5, 3), ((),) * hours)


def moves(*told):
    return [((), move) for move in told]


class TestCases(unittest.TestCase):
    def test_no_works(self):
        self.assertEqual(cases(QUIET), [((), 0)])
        self.assertEqual(cases(only_store(1, 0)), [((), -1), ((), 0), ((), 1)])

    def test_one_work(self):
        self.assertEqual(cases(LAMP), [((False,), 0), ((True,), 0)])
        house = (ALONE, (WORK,), STORE, ((),))
        self.assertEqual(cases(house), [((False,), -1), ((False,), 0), ((False,), 1), ((True,), -1), ((True,), 0),
                                        ((True,), 1)])

    def test_two_works(self):
        house = (ALONE, (WORK,) * 2, None, ((),))
        self.assertEqual(cases(house), [((False, False), 0), ((False, True), 0), ((True, False), 0), ((True, True), 0)])

    def test_none_to_three_works_with_and_without_a_store(self):
        for many in range(4):
            for store, moved in ((None, 1), (STORE, 3), ((0, 1, 0, 1, 0), 3)):
                house = (ALONE, (WORK,) * many, store, ((),))
                found = cases(house)
                self.assertIs(type(found), list)
                self.assertEqual(len(found), 2 ** many * moved)
                self.assertEqual(found, sorted(found))
                self.assertEqual(len(set(found)), len(found))
                self.assertEqual(found, all_cases(house))
                for on, move in found:
                    self.assertIs(type(on), tuple)
                    self.assertEqual([type(truth) for truth in on], [bool] * many)
                    self.assertIs(type(move), int)

    def test_neither_hours_nor_levels_matter(self):
        self.assertEqual(cases(only_store(2, 0, 1)), cases(only_store(1, 1, 3)))

    def test_told_lists_are_new_ones(self):
        for house in HOUSES:
            assert_own(self, cases, house)


class TestBaseAndBlocks(unittest.TestCase):
    # At the place 1 stand a work, the store and two wants.
    HOUSE = (PAIR, ((1, 4, 9, ((10, 2), (6, 5)), 3, 1, 1, False), (0, 7, 1, ((3, 8),), 3, 1, 1, False)),
             (1, 2, 1, 5, 3), (((1, 12, 100), (0, 6, 40), (1, 2, 0)), (), ((0, 0, 100), (1, 0, 30))))

    def assert_told(self, hour, case, wanted_base, wanted_blocks):
        self.assertEqual(base(self.HOUSE, hour, case), wanted_base)
        self.assertEqual(blocks(self.HOUSE, hour, case), wanted_blocks)

    def test_all_off(self):
        self.assert_told(0, ((False, False), 0), [-6, -14], ((0, 6, 40), (1, 2, 0)))
        self.assert_told(1, ((False, False), 0), [0, 0], ())
        self.assert_told(2, ((False, False), 0), [0, 0], ((1, 0, 30),))

    def test_works_that_are_on(self):
        self.assert_told(0, ((True, False), 0), [-6, -10], ((1, 10, 2), (1, 6, 5), (0, 6, 40), (1, 2, 0)))
        self.assert_told(0, ((False, True), 0), [1, -14], ((0, 3, 8), (0, 6, 40), (1, 2, 0)))
        self.assert_told(1, ((True, True), 0), [7, 4], ((1, 10, 2), (1, 6, 5), (0, 3, 8)))

    def test_a_store_moved_each_way(self):
        self.assert_told(0, ((True, False), 1), [-6, -15], ((1, 10, 2), (1, 6, 5), (0, 6, 40), (1, 2, 0)))
        self.assert_told(0, ((True, False), -1), [-6, -7], ((1, 10, 2), (1, 6, 5), (0, 6, 40), (1, 2, 0)))
        self.assert_told(1, ((False, False), 1), [0, -5], ())
        self.assert_told(1, ((False, False), -1), [0, 3], ())

    def test_firm_wants_have_no_block(self):
        for worth, wanted in ((100, ()), (99, ((0, 5, 99),)), (0, ((0, 5, 0),))):
            house = (ALONE, (), None, (((0, 5, worth),),))
            self.assertEqual(blocks(house, 0, ((), 0)), wanted)
            self.assertEqual(base(house, 0, ((), 0)), [-5])

    def test_two_works_and_two_wants_alike(self):
        house = (ALONE, (WORK,) * 2, None, (((0, 5, 60),) * 2,))
        self.assertEqual(blocks(house, 0, ((True, True), 0)), ((0, 10, 4), (0, 10, 4), (0, 5, 60), (0, 5, 60)))
        self.assertEqual(base(house, 0, ((True, True), 0)), [-6])

    def test_each_case_of_each_hour(self):
        numbers = Numbers(179)
        for house in HOUSES + (self.HOUSE,) + tuple(drawn_house(numbers) for _ in range(60)):
            for hour in range(len(house[3])):
                for case in cases(house):
                    found = base(house, hour, case)
                    self.assertIs(type(found), list)
                    self.assertEqual([type(part) for part in found], [int] * house[0][0])
                    self.assertEqual(found, case_base(house, hour, case), (house, hour, case))
                    told = blocks(house, hour, case)
                    self.assertIs(type(told), tuple)
                    self.assertEqual([type(block) for block in told], [tuple] * len(told))
                    self.assertEqual(told, case_blocks(house, hour, case), (house, hour, case))

    def test_a_base_is_a_new_list_each_time(self):
        for house in HOUSES:
            for case in cases(house):
                assert_own(self, base, house, 0, case)

    def test_a_base_with_nothing_in_the_hour_is_a_new_list(self):
        assert_own(self, base, QUIET, 0, ((), 0))


class TestRows(unittest.TestCase):
    def assert_gone(self, house, row, can, whole):
        self.assertIs(can_be_gone(house, row), can, (house, row))
        self.assertIs(is_whole(house, row), whole, (house, row))

    def test_no_case_at_all(self):
        for house in HOUSES:
            self.assert_gone(house, [], True, False)
            self.assertEqual(turning(house, []), 0)

    def test_no_works_and_no_store(self):
        self.assert_gone(QUIET, [((), 0)], True, True)
        self.assert_gone(only_store(1, 0, 1), [((), 0)], True, True)

    def test_more_cases_than_hours(self):
        self.assert_gone(QUIET, [((), 0)] * 2, False, False)
        self.assert_gone(one_work(1, 1, True, 2), [ON] * 3, False, False)
        self.assert_gone(one_work(1, 1, True, 2), [ON] * 2, True, True)

    def test_too_few_cases(self):
        self.assert_gone(one_work(1, 1, True), [ON, ON], True, False)
        self.assert_gone(one_work(1, 1, True), [ON, ON, ON], True, True)

    def test_levels_beyond_the_ends(self):
        self.assert_gone(only_store(1, 0), moves(-1), False, False)
        self.assert_gone(only_store(1, 1), moves(1), False, False)
        self.assert_gone(only_store(1, 0), moves(1, 1), False, False)
        self.assert_gone(only_store(2, 0), moves(1, 1), True, False)
        self.assert_gone(only_store(2, 0), moves(1, 1, 1), False, False)
        self.assert_gone(only_store(2, 2), moves(-1, -1), True, False)
        self.assert_gone(only_store(2, 2), moves(-1, -1, -1), False, False)
        # Beyond an end for one hour only.
        self.assert_gone(only_store(1, 0), moves(-1, 1, 0), False, False)
        self.assert_gone(only_store(2, 2), moves(1, -1, 0), False, False)

    def test_the_last_level_below_at_and_above_the_first_one(self):
        self.assert_gone(only_store(2, 1), moves(0, -1, 0), True, False)
        self.assert_gone(only_store(2, 1), moves(0, 0, 0), True, True)
        self.assert_gone(only_store(2, 1), moves(-1, 1, 0), True, True)
        self.assert_gone(only_store(2, 1), moves(-1, 0, 1), True, True)
        self.assert_gone(only_store(2, 1), moves(0, 0, 1), True, True)
        self.assert_gone(only_store(2, 1), moves(1, -1, -1), True, False)
        self.assert_gone(only_store(2, 2), moves(0, 0, -1), True, False)

    def test_stay(self):
        for was, row in ((False, [ON, OFF, OFF]), (False, [OFF, ON, OFF])):
            self.assert_gone(one_work(1, 1, was), row, True, True)
            self.assert_gone(one_work(1, 2, was), row, True, True)
            self.assert_gone(one_work(2, 1, was), row, False, False)
        self.assert_gone(one_work(2, 1, False), [ON, ON, OFF], True, True)
        self.assert_gone(one_work(2, 1, False), [ON, OFF], False, False)

    def test_rest(self):
        for was, row in ((True, [OFF, ON, ON]), (True, [ON, OFF, ON])):
            self.assert_gone(one_work(1, 1, was), row, True, True)
            self.assert_gone(one_work(2, 1, was), row, True, True)
            self.assert_gone(one_work(1, 2, was), row, False, False)
        self.assert_gone(one_work(1, 2, True), [OFF, OFF, ON], True, True)
        self.assert_gone(one_work(1, 2, True), [OFF, ON], False, False)

    def test_ahead_of_the_first_hour_for_long_enough(self):
        self.assert_gone(one_work(2, 2, True), [OFF, OFF, OFF], True, True)
        self.assert_gone(one_work(2, 2, False), [ON, ON, ON], True, True)
        self.assert_gone(one_work(2, 2, True), [OFF], True, False)
        self.assert_gone(one_work(2, 2, False), [ON], True, False)

    def test_turned_in_the_last_hour_of_the_row(self):
        self.assert_gone(one_work(2, 2, False), [OFF, ON], True, False)
        self.assert_gone(one_work(2, 2, True), [ON, OFF], True, False)
        self.assert_gone(one_work(2, 2, False), [OFF, OFF, ON], True, True)
        self.assert_gone(one_work(2, 2, True), [ON, ON, OFF], True, True)

    def test_each_work_by_its_own(self):
        works = ((0, 2, 3, ((10, 4),), 7, 2, 1, False), (0, 2, 3, ((10, 4),), 9, 1, 2, True))
        house = (ALONE, works, None, ((),) * 3)
        self.assert_gone(house, [((True, False), 0), ((True, False), 0), ((False, True), 0)], True, True)
        self.assert_gone(house, [((True, False), 0), ((False, False), 0)], False, False)
        self.assert_gone(house, [((True, False), 0), ((True, True), 0)], False, False)

    def test_all_rows(self):
        numbers = Numbers(181)
        houses = [one_work(stay, rest, was, hours) for stay, rest, was, hours
                  in itertools.product((1, 2), (1, 2), (False, True), (1, 2, 3))]
        houses += [only_store(top, level, hours) for top in (1, 2) for level in range(top + 1) for hours in (1, 2, 3)]
        houses += [drawn_house(numbers, works, hours) for works, hours in ((0, 3), (1, 3), (2, 2), (2, 3), (3, 2)) * 2]
        seen = set()
        for house in list(HOUSES[:3]) + houses:
            for many in range(len(house[3]) + 1):
                for row in rows_of(house, many):
                    can, whole = can_go(house, row), is_whole_row(house, row)
                    self.assert_gone(house, row, can, whole)
                    seen.add((can, whole))
                    if can:
                        self.assertEqual(turning(house, row), row_turning(house, row))
        self.assertEqual(len(seen), 3)

    def test_rows_of_the_largest_house(self):
        numbers = Numbers(191)
        for _ in range(4000):
            row = [numbers.one_of(all_cases(LARGE)) for _ in range(numbers.below(4))]
            self.assert_gone(LARGE, row, can_go(LARGE, row), is_whole_row(LARGE, row))

    def test_what_is_handed_in_stays_as_it_was(self):
        for asked in (can_be_gone, is_whole, turning):
            assert_unchanged(self, asked, one_work(1, 1, True), [ON, OFF, ON])
            assert_unchanged(self, asked, only_store(2, 1), moves(1, -1, 0))

    def test_a_row_changed_later_is_asked_anew(self):
        row = [ON, OFF, ON]
        house = one_work(2, 2, True)
        self.assertIs(can_be_gone(house, row), False)
        row[1] = ON
        self.assertIs(can_be_gone(house, row), True)
        self.assertIs(is_whole(house, row), True)
        row.pop()
        self.assertIs(is_whole(house, row), False)


class TestTurning(unittest.TestCase):
    def assert_turning(self, house, row, wanted):
        found = turning(house, row)
        self.assertIs(type(found), int)
        self.assertEqual(found, wanted)

    def test_one_work(self):
        self.assert_turning(one_work(1, 1, False), [OFF, OFF, OFF], 0)
        self.assert_turning(one_work(1, 1, False), [ON, ON, ON], 7)
        self.assert_turning(one_work(1, 1, False), [ON, OFF, ON], 14)
        self.assert_turning(one_work(1, 1, False), [OFF, OFF, ON], 7)
        self.assert_turning(one_work(1, 1, True), [ON, ON, ON], 0)
        self.assert_turning(one_work(1, 1, True), [OFF, ON, OFF], 7)
        self.assert_turning(one_work(1, 1, True), [OFF, OFF, OFF], 0)

    def test_several_works(self):
        house = (ALONE, ((0, 2, 3, ((10, 4),), 7, 1, 1, False), (0, 2, 3, ((10, 4),), 90, 1, 1, False),
                         (0, 2, 3, ((10, 4),), 500, 1, 1, True)), None, ((),) * 3)
        self.assert_turning(house, [((True, True, True), 0)], 97)
        self.assert_turning(house, [((True, False, False), 0), ((False, True, True), 0), ((True, True, False), 0)], 604)

    def test_a_start_of_nought(self):
        house = put_at(one_work(1, 1, False), (1, 0, 4), 0)
        self.assert_turning(house, [ON, OFF, ON], 0)

    def test_no_works(self):
        self.assert_turning(only_store(2, 1), moves(1, -1, 0), 0)


class TestStates(unittest.TestCase):
    def test_first_state(self):
        self.assertEqual(first_state(MILL), ((True, False), (2, 2), 0))
        self.assertEqual(first_state(DARK), ((), (), 1))
        self.assertEqual(first_state(LAMP), ((False,), (2,), 0))

    def test_ages(self):
        house = one_work(2, 2, False)
        self.assertEqual(led_to(house, ((False,), (2,), 0), ON), ((True,), (1,), 0))
        self.assertEqual(led_to(house, ((False,), (2,), 0), OFF), ((False,), (2,), 0))
        self.assertEqual(led_to(house, ((True,), (1,), 0), ON), ((True,), (2,), 0))
        self.assertIsNone(led_to(house, ((True,), (1,), 0), OFF))
        self.assertIsNone(led_to(house, ((False,), (1,), 0), ON))
        self.assertEqual(led_to(one_work(1, 2, False), ((True,), (1,), 0), OFF), ((False,), (1,), 0))
        self.assertEqual(led_to(one_work(2, 1, False), ((False,), (1,), 0), ON), ((True,), (1,), 0))

    def test_all_states_and_cases(self):
        numbers = Numbers(193)
        for house in HOUSES + tuple(drawn_house(numbers) for _ in range(10)):
            self.assertEqual(first_state(house), start_state(house))
            many = len(house[1])
            for on in itertools.product((False, True), repeat=many):
                for ages in itertools.product((1, 2), repeat=many):
                    for level in range(house[2][1] + 1 if house[2] else 1):
                        for case in all_cases(house):
                            state = (on, ages, level)
                            self.assertEqual(led_to(house, state, case), lead(house, state, case))


if __name__ == "__main__":
    unittest.main()
