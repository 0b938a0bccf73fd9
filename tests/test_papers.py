"""Points 2, 3 and 22 to 24: the paper that shows that no run costs less, or that there is none."""

import itertools
import unittest

from drawn import Numbers, assert_unchanged, put_at, worth
from housed import (ALONE, DARK, HOUSES, LAMP, LARGE, MILL, QUIET, HouseTest, Looker, all_cases, drawn_house, is_ratio,
                    start_state)
from mainskeep.papers import least_paper
from mainskeep.runs import cheapest_run


class PaperTest(HouseTest):
    def assert_paper(self, house):
        """Holds the told paper against each clause of points 22 and 23, and its number against the told run."""
        paper = least_paper(house)
        self.assertIsNone(Looker(house).fault(paper), house)
        run = cheapest_run(house)
        self.assertEqual(paper[1], None if run is None else run[0], house)
        return paper


class TestWrittenOut(PaperTest):
    def test_a_house_with_nothing_to_do(self):
        state = ((), (), 0)
        word, number, bounds, tables = least_paper(QUIET)
        self.assertEqual((word, number), ("least", (0, 1)))
        self.assertEqual([case for case, weights in bounds[0]], [((), 0)])
        self.assertEqual(tables, (((state, (0, 1)),), ((state, (0, 1)),)))

    def test_numbers(self):
        self.assertEqual(least_paper(LAMP)[1], (72, 1))
        self.assertIsNone(least_paper(DARK)[1])
        self.assertIsNone(least_paper((ALONE, (), None, (((0, 1, 100),),)))[1])

    def test_worths(self):
        tables = least_paper(LAMP)[3]
        self.assertEqual(tables[0], ((((False,), (2,), 0), (72, 1)),))
        # From the second hour on the want of 1 is left out, at 50, with the work off.
        self.assertEqual(dict(tables[1])[((True,), (1,), 0)], (50, 1))

    def test_states_from_which_one_comes_to_no_end(self):
        # Once on it stays on in the second hour, too, in which nothing takes what it makes.
        house = (ALONE, ((0, 5, 0, ((5, 1),), 0, 2, 1, False),), None, (((0, 5, 90),), ()))
        tables = self.assert_paper(house)[3]
        self.assertIsNone(dict(tables[1])[((True,), (1,), 0)])
        self.assertEqual(tables[0][0][1], (450, 1))


class TestForm(PaperTest):
    def test_written_houses(self):
        for house in HOUSES:
            word, number, bounds, tables = paper = self.assert_paper(house)
            self.assertIs(type(paper), tuple)
            self.assertEqual(word, "least")
            self.assertTrue(number is None or is_ratio(number))
            self.assertEqual((len(bounds), len(tables)), (len(house[3]), len(house[3]) + 1))
            self.assertEqual(tables[0], ((start_state(house), number),))
            for hour in bounds:
                told = [case for case, weights in hour]
                self.assertEqual(told, [case for case in all_cases(house) if case in told])
                for case, weights in hour:
                    self.assert_weights(house[0], weights)
            for table in tables:
                told = [state for state, there in table]
                self.assertEqual(told, sorted(set(told)))
            self.assertTrue(all(there == (0, 1) for state, there in tables[-1]))

    def test_no_list_stands_in_it(self):
        def kinds(thing):
            return {type(thing)}.union(*map(kinds, thing)) if isinstance(thing, (tuple, list)) else {type(thing)}

        for house in HOUSES:
            self.assertLessEqual(kinds(least_paper(house)), {tuple, int, bool, str, type(None)})


class TestDrawn(PaperTest):
    def test_works_and_hours(self):
        numbers = Numbers(227)
        seen = {True: 0, False: 0}
        for works, hours in itertools.product(range(4), (1, 2, 3)):
            for _ in range(10):
                seen[self.assert_paper(drawn_house(numbers, works, hours))[1] is None] += 1
        self.assertGreater(min(seen.values()), 5, seen)

    def test_against_all_rows(self):
        numbers = Numbers(229)
        for _ in range(40):
            house = drawn_house(numbers, numbers.below(3))
            number = self.assert_paper(house)[1]
            self.assertEqual(None if number is None else worth(number), self.least_cost(house))

    def test_stay_and_rest_and_was(self):
        for stay, rest, was, size in itertools.product((1, 2), (1, 2), (False, True), (0, 3, 9)):
            work = (0, 2, 3, ((10, 4),), 7, stay, rest, was)
            self.assert_paper((ALONE, (work,), None, (((0, size, 100),), ((0, 4, 30),), ((0, size, 60),))))
            self.assert_paper((ALONE, (work, work), (0, 1, 0, 3, 2), (((0, size, 100),), (), ((0, size, 60),))))


class TestNothingIsKept(PaperTest):
    def test_what_is_handed_in_stays_as_it_was(self):
        for house in HOUSES:
            assert_unchanged(self, least_paper, house)

    def test_houses_one_behind_the_other(self):
        numbers = [least_paper(house)[1] for house in (MILL, DARK, LARGE, LAMP)]
        self.assertEqual(numbers, [least_paper(house)[1] for house in (MILL, DARK, LARGE, LAMP)])
        other = put_at(MILL, (3, 0, 0, 1), 0)
        self.assertNotEqual(least_paper(other)[1], least_paper(MILL)[1])
        self.assertEqual(least_paper(MILL)[1], numbers[0])


if __name__ == "__main__":
    unittest.main()
