"""Points 2, 3 and 25 to 27: what is paid and got, what works are owed, a run settled behind other wants."""

import copy
import unittest
from fractions import Fraction

from drawn import Numbers, assert_unchanged, beyond_by_limit, put_at, ratio, worth
from housed import (ALONE, HOUSES, LAMP, LARGE, MILL, PAIR, QUIET, HouseTest, case_base, case_blocks, drawn_house,
                    drawn_wants, is_ratio)
from mainskeep.errors import MainsError, NoMaking
from mainskeep.making import prices
from mainskeep.money import owed, paid, settled
from mainskeep.runs import cheapest_run
from reckoned import Reckoner, drawn_weights


def worths(parts):
    return [worth(part) for part in parts]


def puts_of(house, hour, case, amounts):
    found = [Fraction(part) for part in case_base(house, hour, case)]
    for amount, block in zip(amounts, case_blocks(house, hour, case)):
        found[block[0]] += worth(amount)
    return found


def reckoned_paid(house, hour, entry):
    """Point 25, written out."""
    net, works, store, hours = house
    (on, move), amounts, weights = entry
    by_place = Reckoner(net).prices(weights)
    left = worths(amounts)
    gets = []
    for work, is_on in zip(works, on):
        made = work[1] + sum(left.pop(0) for _ in work[3]) if is_on else 0
        gets.append(by_place[work[0]] * made)
    pays = [by_place[place] * (size - (left.pop(0) if value < 100 else 0)) for place, size, value in hours[hour]]
    kept = by_place[store[0]] * {-1: store[4], 0: 0, 1: -store[3]}[move] if store else 0
    rents = [sum(worth(row[3]) * line[3] for row in weights[1] if row[1] == number)
             for number, line in enumerate(net[1])]
    return pays, gets, kept, rents


def reckoned_gains(house, run):
    """Point 26, written out."""
    found = []
    for number, work in enumerate(house[1]):
        gain, ahead = Fraction(0), work[7]
        for hour, (case, amounts, weights) in enumerate(run[1]):
            on = case[0]
            if on[number]:
                at = sum(len(other[3]) for other, is_on in zip(house[1][:number], on) if is_on)
                made = worths(amounts)[at:at + len(work[3])]
                price = Reckoner(house[0]).prices(weights)[work[0]]
                gain += price * (work[1] + sum(made))
                gain -= sum(amount * piece[1] for amount, piece in zip(made, work[3])) + work[2]
                gain -= 0 if ahead else work[4]
            ahead = on[number]
        found.append(gain)
    return found


def drawn_runs(numbers, many, **given):
    """Houses with their runs."""
    found = []
    while len(found) < many:
        house = drawn_house(numbers, **given)
        run = cheapest_run(house)
        if run is not None:
            found.append((house, run))
    return found


def other_weights(numbers, house, run):
    """The run with drawn weights in the place of its own."""
    return (run[0], [(case, amounts, drawn_weights(numbers, house[0], numbers.below(6)))
                     for case, amounts, weights in run[1]])


WRITTEN = tuple((house, cheapest_run(house)) for house in (LAMP, MILL, LARGE, QUIET))


class MoneyTest(HouseTest):
    def assert_paid(self, house, hour, entry):
        found = paid(house, hour, entry)
        self.assertIs(type(found), tuple)
        self.assertEqual([type(part) for part in found], [list, list, tuple, list])
        for part in (*found[0], *found[1], found[2], *found[3]):
            self.assertIs(is_ratio(part), True)
        told = (worths(found[0]), worths(found[1]), worth(found[2]), worths(found[3]))
        self.assertEqual(told, reckoned_paid(house, hour, entry), (house, hour, entry))
        return told

    def assert_closes(self, told):
        wants, works, store, rents = told
        self.assertEqual(sum(wants), sum(works) + store + sum(rents))


class TestPaid(MoneyTest):
    def test_written_out(self):
        # The prices are 3 and 20; the line bears 10 at the rent 17; the store is filled by 4.
        entry = (((True, True), 1), [(10, 1), (0, 1), (1, 1)], ((3, 1), ((-1, 0, 1, (17, 1)),)))
        self.assertEqual(paid(MILL, 0, entry), ([(160, 1)], [(30, 1), (40, 1)], (-80, 1), [(170, 1)]))

    def test_the_store_gives(self):
        entry = (((True, False), -1), [(12, 1), (1, 2), (3, 1), (2, 1)], ((5, 2), ()))
        self.assertEqual(paid(MILL, 1, entry), ([(55, 2), (0, 1)], [(125, 4), (0, 1)], (15, 2), [(0, 1)]))

    def test_the_store_stays(self):
        entry = (((False, True), 0), [(4, 1), (1, 1)], ((7, 1), ()))
        self.assertEqual(paid(MILL, 2, entry), ([(112, 1), (-7, 1)], [(0, 1), (35, 1)], (0, 1), [(0, 1)]))

    def test_firm_wants_between_others(self):
        house = (ALONE, (), None, (((0, 3, 50), (0, 4, 100), (0, 5, 60)),))
        entry = (((), 0), [(1, 1), (2, 1)], ((10, 1), ()))
        self.assertEqual(paid(house, 0, entry), ([(20, 1), (40, 1), (30, 1)], [], (0, 1), []))

    def test_prices_below_nought(self):
        entry = (((True, True), 1), [(10, 1), (0, 1), (1, 1)], ((-3, 1), ()))
        self.assertEqual(paid(MILL, 0, entry), ([(-24, 1)], [(-30, 1), (-6, 1)], (12, 1), [(0, 1)]))

    def test_rents_of_lines_in_several_rows(self):
        net = (2, ((0, 1, 4, 10), (1, 0, 6, 20)))
        house = (net, (), None, ((),))
        rows = ((-1, 0, -1, (1, 1)), (-1, 0, 1, (2, 1)), (0, 1, 1, (1, 2)), (1, 0, 1, (1, 4)))
        self.assertEqual(paid(house, 0, (((), 0), [], ((0, 1), rows)))[3], [(65, 2), (10, 1)])

    def test_a_line_without_any_most(self):
        house = ((2, ((0, 1, 1, 0),)), (), None, ((),))
        self.assertEqual(paid(house, 0, (((), 0), [], ((0, 1), ((-1, 0, 1, (5, 1)),))))[3], [(0, 1)])

    def test_nothing_there(self):
        self.assertEqual(paid(QUIET, 0, (((), 0), [], ((9, 1), ()))), ([], [], (0, 1), []))

    def test_told_runs_close(self):
        numbers = Numbers(263)
        bound = 0
        for house, run in WRITTEN + tuple(drawn_runs(numbers, 120)):
            for hour, entry in enumerate(run[1]):
                told = self.assert_paid(house, hour, entry)
                self.assert_closes(told)
                bound += sum(told[3]) > 0
        self.assertGreater(bound, 15)

    def test_other_weights(self):
        numbers = Numbers(269)
        for house, run in WRITTEN + tuple(drawn_runs(numbers, 60)):
            for hour, entry in enumerate(other_weights(numbers, house, run)[1]):
                self.assert_paid(house, hour, entry)

    def test_large_weights(self):
        numbers = Numbers(271)
        for house, run in WRITTEN:
            for hour, (case, amounts, weights) in enumerate(run[1]):
                self.assert_paid(house, hour, (case, amounts, drawn_weights(numbers, house[0], 12, 10 ** 40 - 1)))

    def test_nothing_is_kept(self):
        for house, run in WRITTEN:
            for hour, entry in enumerate(run[1]):
                assert_unchanged(self, paid, house, hour, entry)
                first, second = paid(house, hour, entry), paid(house, hour, entry)
                wanted = copy.deepcopy(second)
                for at in (0, 1, 3):
                    self.assertIsNot(first[at], second[at])
                    first[at].append(None)
                self.assertEqual(second, wanted)
                self.assertEqual(paid(house, hour, entry), wanted)

    def test_told_lists_are_not_one_another(self):
        found = paid(QUIET, 0, (((), 0), [], ((9, 1), ())))
        found[0].append(1)
        self.assertEqual(found[1:], ([], (0, 1), []))
        found[1].append(2)
        self.assertEqual(found[3], [])


class TestOwed(MoneyTest):
    def assert_owed(self, house, run):
        found = owed(house, run)
        self.assertIs(type(found), list)
        for part in found:
            self.assertIs(is_ratio(part), True)
        gains = reckoned_gains(house, run)
        self.assertEqual(worths(found), [max(Fraction(0), -gain) for gain in gains], (house, run))
        return gains

    def test_below_at_and_above_nought(self):
        # It gets 5 times 4; 3 pieces at 4, its keep 3 and its start go off.
        for start, wanted in ((7, (2, 1)), (6, (1, 1)), (5, (0, 1)), (4, (0, 1))):
            house = put_at(LAMP, (1, 0, 4), start)
            self.assertEqual(owed(house, cheapest_run(house)), [wanted])

    def test_keeps_and_starts_of_each_hour(self):
        house = (ALONE, ((0, 1, 10, ((5, 2),), 30, 1, 1, False),), None, ((), (), ()))
        on, off = ((True,), 0), ((False,), 0)
        weights = ((3, 1), ())
        # An hour in which it is on: 3 made at the price 3, 2 of the piece at 2, the keep 10.
        for row, wanted in (([off, off, off], 0), ([on, on, on], 30 + 3 * 5), ([off, off, on], 30 + 5),
                            ([on, off, on], 2 * 35), ([on, on, off], 30 + 2 * 5)):
            entries = [(case, [(2, 1)] if case == on else [], weights) for case in row]
            self.assertEqual(owed(house, ((0, 1), entries)), [(wanted, 1)])

    def test_a_work_that_was_on_is_not_turned_on(self):
        house = (ALONE, ((0, 1, 10, ((5, 2),), 30, 1, 1, True),), None, ((),))
        entry = (((True,), 0), [(0, 1)], ((3, 1), ()))
        self.assertEqual(owed(house, ((0, 1), [entry])), [(7, 1)])
        self.assertEqual(owed(put_at(house, (1, 0, 7), False), ((0, 1), [entry])), [(37, 1)])

    def test_the_store_and_the_wants_do_not_matter(self):
        entry = (((True,), 1), [(0, 1), (1, 1)], ((3, 1), ()))
        house = (ALONE, ((0, 1, 10, ((5, 2),), 30, 1, 1, True),), (0, 1, 0, 5, 5), (((0, 4, 7),),))
        self.assertEqual(owed(house, ((0, 1), [entry])), [(7, 1)])

    def test_no_works(self):
        self.assertEqual(owed(QUIET, cheapest_run(QUIET)), [])

    def test_told_runs(self):
        numbers = Numbers(277)
        seen = {-1: 0, 0: 0, 1: 0}
        for house, run in WRITTEN + tuple(drawn_runs(numbers, 100)):
            for gain in self.assert_owed(house, run):
                seen[(gain > 0) - (gain < 0)] += 1
        self.assertGreater(min(seen.values()), 10, seen)

    def test_other_weights(self):
        numbers = Numbers(281)
        for house, run in WRITTEN + tuple(drawn_runs(numbers, 60)):
            self.assert_owed(house, other_weights(numbers, house, run))

    def test_nothing_is_kept(self):
        for house, run in WRITTEN:
            assert_unchanged(self, owed, house, run)
            first, second = owed(house, run), owed(house, run)
            wanted = list(second)
            first.append(None)
            self.assertEqual(second, wanted)
            self.assertEqual(owed(house, run), wanted)


class TestSettled(MoneyTest):
    def assert_settled(self, house, run, hours):
        """Holds each hour against points 13, 14 and 27; tells the sum of each hour's turns."""
        found = settled(house, run, hours)
        self.assertIs(type(found), list)
        self.assertEqual(len(found), len(run[1]))
        other = (*house[:3], hours)
        reckoner = Reckoner(house[0])
        sums = []
        for hour, ((case, ahead, old), told) in enumerate(zip(run[1], found)):
            self.assertIs(type(told), tuple)
            amounts, weights, turns = told
            base, blocks = case_base(other, hour, case), case_blocks(other, hour, case)
            cost = ratio(sum(worth(amount) * block[2] for amount, block in zip(amounts, blocks)))
            self.assert_made(reckoner, base, blocks, ("made", cost, amounts, weights))
            self.assertIs(type(turns), list)
            self.assertTrue(all(map(is_ratio, turns)))
            first, second = puts_of(house, hour, case, ahead), puts_of(other, hour, case, amounts)
            wanted = [price * (now - then) for price, now, then in zip(reckoner.prices(weights), second, first)]
            self.assertEqual(worths(turns), wanted)
            below = beyond_by_limit(house[0], first)
            self.assertEqual(sum(wanted), sum(worth(row[3]) * below[row[:3]] for row in weights[1]))
            sums.append(sum(wanted))
        return sums

    def test_behind_the_same_wants(self):
        numbers = Numbers(283)
        for house, run in WRITTEN + tuple(drawn_runs(numbers, 60)):
            sums = self.assert_settled(house, run, house[3])
            self.assertEqual(sums, [0] * len(sums))

    def test_written_out(self):
        # One more is wanted behind the line that bears its most already, at the price 20.
        run = cheapest_run(MILL)
        entry = run[1][0]
        self.assertEqual(entry[0], ((True, True), 1))
        hours = (((1, 9, 100),),) + MILL[3][1:]
        amounts, weights, turns = settled(MILL, run, hours)[0]
        self.assertEqual(amounts, [(10, 1), (0, 1), (2, 1)])
        self.assertEqual(prices(PAIR, weights), [(3, 1), (20, 1)])
        self.assertEqual(turns, [(0, 1), (0, 1)])

    def test_a_line_is_freed(self):
        # Less is wanted, so that the line bears 6 and nothing in rent.
        run = cheapest_run(MILL)
        amounts, weights, turns = settled(MILL, run, (((1, 3, 100),),) + MILL[3][1:])[0]
        self.assertEqual((amounts, weights), ([(6, 1), (0, 1), (0, 1)], ((3, 1), ())))
        self.assertEqual(turns, [(-12, 1), (12, 1)])

    def test_wants_of_another_number_and_at_other_places(self):
        run = cheapest_run(MILL)
        for wants in (((0, 4, 50),), ((1, 2, 50), (0, 8, 60), (1, 3, 70)), ((1, 14, 100),)):
            sums = self.assert_settled(MILL, run, (((1, 8, 100),), wants, ((1, 16, 100),)))
            self.assertTrue(all(total <= 0 for total in sums))

    def test_other_wants(self):
        numbers = Numbers(293)
        seen = {"told": 0, "refused": 0, "below": 0}
        for house, run in drawn_runs(numbers, 150, mosts=(4, 9, 15)):
            worths_of_wants = numbers.one_of((range(100), (100, 50), range(90, 101)))
            hours = tuple(drawn_wants(numbers, house[0][0], range(20), worths_of_wants) for _ in house[3])
            try:
                sums = self.assert_settled(house, run, hours)
            except NoMaking as refusal:
                self.assertEqual(refusal.hour, self.first_without(house, run, hours))
                seen["refused"] += 1
            else:
                self.assertIsNone(self.first_without(house, run, hours))
                self.assertTrue(all(total <= 0 for total in sums))
                seen["told"] += 1
                seen["below"] += any(total < 0 for total in sums)
        self.assertGreater(min(seen.values()), 5, seen)

    def first_without(self, house, run, hours):
        """The first hour in which no making fits the run's case, or None."""
        other = (*house[:3], hours)
        for hour, (case, amounts, weights) in enumerate(run[1]):
            base, blocks = case_base(other, hour, case), case_blocks(other, hour, case)
            if self.assert_cheapest(Reckoner(house[0]), base, blocks)[0] == "none":
                return hour
        return None

    def test_the_first_hour_without_a_making(self):
        house = (ALONE, ((0, 0, 0, ((10, 1),), 0, 1, 1, True),), None, (((0, 5, 100),),) * 3)
        run = cheapest_run(house)
        fits, fails = ((0, 10, 100),), ((0, 11, 100),)
        for hours, wanted in (((fails, fails, fails), 0), ((fits, fails, fails), 1), ((fits, fails, fits), 1),
                              ((fits, fits, fails), 2), ((fails, fits, fits), 0)):
            with self.assertRaises(MainsError) as caught:
                settled(house, run, hours)
            self.assertIs(type(caught.exception), NoMaking)
            self.assertIs(type(caught.exception.hour), int)
            self.assertEqual(caught.exception.hour, wanted)
        self.assertEqual([entry[0] for entry in settled(house, run, (fits,) * 3)], [[(10, 1)]] * 3)

    def test_the_cases_stay(self):
        # Off in the run, so that it stays off, and what is wanted is left out, dear as it is.
        house = (ALONE, ((0, 0, 0, ((10, 1),), 99, 1, 1, False),), None, (((0, 1, 5),),))
        run = cheapest_run(house)
        self.assertEqual(run[1][0][0], ((False,), 0))
        self.assertEqual(settled(house, run, (((0, 30, 99),),)), [([(30, 1)], ((99, 1), ()), [(0, 1)])])

    def test_nothing_is_kept(self):
        for house, run in WRITTEN:
            assert_unchanged(self, settled, house, run, house[3])
            first, second = settled(house, run, house[3]), settled(house, run, house[3])
            wanted = copy.deepcopy(second)
            for amounts, weights, turns in first:
                amounts.append(None)
                turns.clear()
            first.clear()
            self.assertEqual(second, wanted)
            self.assertEqual(settled(house, run, house[3]), wanted)

    def test_a_run_changed_later_changes_no_answer(self):
        run = cheapest_run(MILL)
        found = settled(MILL, run, MILL[3])
        wanted = copy.deepcopy(found)
        for case, amounts, weights in run[1]:
            amounts.clear()
        run[1].clear()
        self.assertEqual(found, wanted)


class TestHouses(MoneyTest):
    def test_the_largest_house(self):
        run = cheapest_run(LARGE)
        self.assertTrue(any(entry[2][1] for entry in run[1]))
        for hour, entry in enumerate(run[1]):
            self.assert_closes(self.assert_paid(LARGE, hour, entry))

    def test_all_written_houses_are_asked(self):
        self.assertEqual(len([house for house in HOUSES if cheapest_run(house) is not None]), len(WRITTEN))


if __name__ == "__main__":
    unittest.main()
