"""Points 2, 3 and 21: a run than which none costs less."""

import copy
import itertools
import time
import unittest

from drawn import Numbers, assert_unchanged, put_at, worth
from housed import ALONE, DARK, HOUSES, LAMP, LARGE, MILL, PAIR, QUIET, HouseTest, drawn_house, whole_rows
from mainskeep.runs import cheapest_run


class RunTest(HouseTest):
    def assert_cheapest_run(self, house):
        """Holds the told run against all whole rows; tells its cost, or None."""
        run = cheapest_run(house)
        least = self.least_cost(house)
        if least is None:
            self.assertIsNone(run, house)
            return None
        self.assert_run(house, run)
        self.assertEqual(worth(run[0]), least, house)
        return least


class TestWrittenOut(RunTest):
    def test_nothing_to_do(self):
        self.assertEqual(cheapest_run(QUIET)[0], (0, 1))
        self.assertEqual([entry[:2] for entry in cheapest_run(QUIET)[1]], [(((), 0), [])])

    def test_a_firm_want_turns_a_work_on(self):
        # On in the first hour: start 7, keep 3, and 3 pieces at 4; then off, the want of 1 left out at 50, or
        # on, which makes 2 where 1 is wanted, so it can't be.
        cost, entries = cheapest_run(LAMP)
        self.assertEqual(cost, (7 + 3 + 12 + 50, 1))
        self.assertEqual([entry[:2] for entry in entries], [(((True,), 0), [(3, 1)]), (((False,), 0), [(1, 1)])])

    def test_left_out_where_that_is_cheaper(self):
        house = (ALONE, ((0, 0, 0, ((10, 4),), 21, 1, 1, False),), None, (((0, 5, 8),),))
        self.assertEqual(cheapest_run(house)[0], (40, 1))
        self.assertEqual(cheapest_run(house)[1][0][:2], (((False,), 0), [(5, 1)]))
        self.assertEqual(cheapest_run(put_at(house, (1, 0, 4), 19))[0], (39, 1))
        self.assertEqual(cheapest_run(put_at(house, (1, 0, 7), True))[0], (20, 1))

    def test_kept_on_where_a_start_costs_more(self):
        work = (0, 0, 5, ((10, 1),), 30, 1, 1, True)
        hours = (((0, 4, 100),), (), ((0, 4, 100),))
        self.assertEqual(cheapest_run((ALONE, (work,), None, hours))[0], (4 + 4 + 3 * 5, 1))
        cheap = put_at(work, (4,), 2)
        self.assertEqual(cheapest_run((ALONE, (cheap,), None, hours))[0], (4 + 4 + 2 * 5 + 2, 1))

    def test_stay_and_rest_are_kept(self):
        hours = (((0, 4, 100),), (), ((0, 4, 100),))
        for stay, rest, cost in ((1, 1, 20), (2, 1, 24), (1, 2, 24), (2, 2, 24)):
            house = (ALONE, ((0, 0, 5, ((10, 1),), 1, stay, rest, False),), None, hours)
            # Off in the second hour: 8 made, two keeps, two starts; on throughout: one keep more, one start less.
            self.assertEqual(cheapest_run(house)[0], (cost, 1))

    def test_a_store_that_is_filled_when_it_is_cheap(self):
        house = (ALONE, ((0, 0, 0, ((10, 1), (10, 50)), 0, 1, 1, True),), (0, 1, 0, 5, 4),
                 (((0, 5, 100),), ((0, 14, 100),)))
        # Filled: 10 at 1, then 10 at 1; else 5 at 1, then 10 at 1 and 4 at 50.
        self.assertEqual(cheapest_run(house)[0], (20, 1))
        self.assertEqual([entry[0][1] for entry in cheapest_run(house)[1]], [1, -1])
        self.assertEqual(cheapest_run(put_at(house, (2,), None))[0], (215, 1))

    def test_a_store_is_not_left_emptier(self):
        house = (ALONE, (), (0, 2, 2, 5, 5), (((0, 5, 60),),))
        self.assertEqual(cheapest_run(house)[0], (300, 1))
        self.assertEqual(cheapest_run(house)[1][0][0], ((), 0))

    def test_a_line_that_binds(self):
        works = ((0, 0, 0, ((20, 5),), 0, 1, 1, True), (1, 0, 0, ((20, 9),), 0, 1, 1, True))
        self.assertEqual(cheapest_run((PAIR, works, None, (((1, 15, 100),),)))[0], (95, 1))
        wide = (2, ((0, 1, 1, 99),))
        self.assertEqual(cheapest_run((wide, works, None, (((1, 15, 100),),)))[0], (75, 1))

    def test_a_cost_that_is_no_whole_number(self):
        net = (3, ((0, 1, 1, 1), (1, 2, 1, 99), (0, 2, 2, 99)))
        works = ((0, 0, 0, ((20, 5),), 0, 1, 1, True), (2, 0, 0, ((20, 12),), 0, 1, 1, True))
        self.assertIsNotNone(self.assert_cheapest_run((net, works, None, (((1, 3, 90), (2, 4, 100)),))))

    def test_no_run(self):
        self.assertIsNone(cheapest_run(DARK))
        self.assertIsNone(cheapest_run((ALONE, (), None, (((0, 1, 100),),))))
        self.assertIsNone(cheapest_run((ALONE, (), None, ((), (), ((0, 1, 100),)))))
        # It can be on in either hour, but by its stay not just in the one.
        house = (ALONE, ((0, 5, 0, ((5, 1),), 0, 2, 1, False),), None, (((0, 5, 100),), ()))
        self.assertIsNone(cheapest_run(house))
        self.assertIsNotNone(cheapest_run(put_at(house, (1, 0, 5), 1)))
        # Not by its rest.
        house = (ALONE, ((0, 5, 0, ((5, 1),), 0, 1, 2, True),), None, ((), ((0, 5, 100),)))
        self.assertIsNone(cheapest_run(house))
        self.assertIsNotNone(cheapest_run(put_at(house, (1, 0, 6), 1)))
        # The store would be left emptier.
        house = (ALONE, (), (0, 1, 1, 5, 5), (((0, 5, 100),),))
        self.assertIsNone(cheapest_run(house))

    def test_a_want_that_is_firm_behind_a_line_too_thin(self):
        house = (PAIR, ((0, 0, 0, ((20, 5),), 0, 1, 1, True),), None, (((1, 11, 100),),))
        self.assertIsNone(cheapest_run(house))
        self.assertIsNotNone(cheapest_run(put_at(house, (3, 0, 0, 1), 10)))
        self.assertIsNotNone(cheapest_run(put_at(house, (3, 0, 0, 2), 99)))


class TestAgainstAllRows(RunTest):
    def test_written_houses(self):
        for house in HOUSES:
            self.assert_cheapest_run(house)

    def test_works_and_hours(self):
        numbers = Numbers(197)
        seen = {"none": 0, "run": 0, "binding": 0, "moved": 0, "turned": 0}
        for works, hours in itertools.product(range(4), (1, 2, 3)):
            for _ in range(20 if works < 3 else 8):
                house = drawn_house(numbers, works, hours)
                cost = self.assert_cheapest_run(house)
                seen["none" if cost is None else "run"] += 1
                if cost is not None:
                    entries = cheapest_run(house)[1]
                    seen["binding"] += any(entry[2][1] for entry in entries)
                    seen["moved"] += any(entry[0][1] for entry in entries)
                    seen["turned"] += len({entry[0][0] for entry in entries}) > 1
        self.assertGreater(min(seen.values()), 15, seen)

    def test_lines_that_do_not_bind(self):
        numbers = Numbers(199)
        for _ in range(20):
            house = drawn_house(numbers, numbers.below(3), mosts=(99,))
            self.assert_cheapest_run(house)

    def test_small_houses_with_works_that_must_be_turned(self):
        numbers = Numbers(211)
        for _ in range(60):
            works = tuple((0, numbers.below(4), numbers.below(9), ((numbers.within(1, 9), numbers.below(9)),),
                           numbers.below(20), numbers.within(1, 2), numbers.within(1, 2), numbers.below(2) == 1)
                          for _ in range(numbers.within(1, 2)))
            hours = tuple(numbers.one_of(((), ((0, numbers.below(12), 100),), ((0, numbers.below(12), 20),)))
                          for _ in range(3))
            self.assert_cheapest_run((ALONE, works, numbers.one_of((None, (0, 1, numbers.below(2), 3, 2))), hours))

    def test_rows_are_gone_through(self):
        # The largest house has many whole rows, so that going through them shows something.
        self.assertGreater(len(whole_rows(LARGE)), 500)
        self.assertGreater(len(whole_rows(MILL)), 20)


class TestDrawn(RunTest):
    def test_drawn_runs(self):
        numbers = Numbers(223)
        told = 0
        for _ in range(120):
            house = drawn_house(numbers)
            run = cheapest_run(house)
            if run is not None:
                self.assert_run(house, run)
                told += 1
        self.assertGreater(told, 40)

    def test_in_a_time_that_one_waits_for(self):
        before = time.process_time()
        cheapest_run(LARGE)
        self.assertLess(time.process_time() - before, 20)


class TestNothingIsKept(RunTest):
    def test_what_is_handed_in_stays_as_it_was(self):
        for house in HOUSES:
            assert_unchanged(self, cheapest_run, house)

    def test_told_lists_are_new_ones(self):
        for house in (LAMP, MILL, LARGE):
            first, second = cheapest_run(house), cheapest_run(house)
            wanted = copy.deepcopy(second)
            self.assertIsNot(first[1], second[1])
            for entry in first[1]:
                entry[1].clear()
                entry[1].append(None)
            first[1].clear()
            self.assertEqual(second, wanted)
            self.assert_run(house, second)
            self.assertEqual(cheapest_run(house)[0], wanted[0])
            self.assert_run(house, cheapest_run(house))

    def test_lists_within_a_run_are_not_one_another(self):
        # The same wants in each hour, so that the hours' makings could be one and the same list.
        house = put_at(MILL, (3,), (((1, 8, 100),),) * 3)
        entries = cheapest_run(house)[1]
        for one, other in itertools.combinations(entries, 2):
            self.assertIsNot(one[1], other[1])


if __name__ == "__main__":
    unittest.main()
