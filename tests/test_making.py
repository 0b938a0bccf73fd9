"""Points 2, 3, 12, 13 and 14: prices by weights, what weights show, the cheapest making."""

import itertools
import unittest
from fractions import Fraction

from drawn import Numbers, assert_own, assert_unchanged, worth
from mainskeep.fractions import is_fraction
from mainskeep.limits import limits
from mainskeep.making import cheapest, prices, shown, shown_at_nought
from mainskeep.shares import limit_shares, place_shares
from mainskeep.sheets import Sheet
from mainskeep.walls import walls
from reckoned import MakingTest, Reckoner, drawn_weights

ALONE = (1, ())
PAIR = (2, ((0, 1, 1, 10),))
TWINS = (2, ((0, 1, 4, 10), (1, 0, 6, 20)))
TRIANGLE = (3, ((0, 1, 1, 5), (1, 2, 1, 6), (0, 2, 1, 7)))
CHAIN = (4, ((0, 1, 1, 5), (2, 1, 2, 6), (2, 3, 3, 7)))
RING_AND_TAIL = (4, ((3, 2, 1, 8), (0, 1, 1, 5), (1, 2, 2, 6), (2, 0, 3, 7)))
FULL = (4, ((0, 1, 1, 10), (0, 2, 2, 20), (0, 3, 3, 30), (1, 2, 4, 15), (1, 3, 5, 25), (2, 3, 6, 35)))
NETS = (ALONE, PAIR, TWINS, TRIANGLE, CHAIN, RING_AND_TAIL, FULL)
NO_ROWS = ((7, 2), ())


def drawn_blocks(numbers, net, many, widths, costs):
    return tuple((numbers.below(net[0]), numbers.one_of(widths), numbers.one_of(costs)) for _ in range(many))


class TestLimitShares(unittest.TestCase):
    def test_against_the_net_without_the_line(self):
        numbers = Numbers(97)
        for net in NETS + tuple(numbers.any_net() for _ in range(25)):
            reckoner, known = Reckoner(net), place_shares(net)
            for lost, line, side in limits(net):
                found = [worth(share) for share in limit_shares(net, known, lost, line)]
                self.assertEqual(found, [row[line] for row in reckoner.shares[lost]], (net, lost, line))


class TestSheets(unittest.TestCase):
    def test_of_things_that_are_alike_the_one_of_the_least_number(self):
        # That it ends for whatever is handed in hangs on this, and no drawn input would tell.
        sheet = Sheet([-10], ((0, 5, 7),) * 4, [])
        number = sheet.wrong()
        self.assertEqual(number, 0)
        for order in itertools.permutations((1, 2, 3)):
            sheet.free = list(order)
            self.assertEqual(sheet.mending(sheet.row_of(number)), order.index(1) + 1)

    def test_what_is_wrong_by_the_least_number(self):
        sheet = Sheet([-20, 0], ((0, 5, 7), (0, 9, 7)), walls(PAIR))
        self.assertEqual(sheet.wrong(), 0)
        sheet = Sheet([-20, 0], ((1, 90, 7), (1, 9, 7)), walls(PAIR))
        self.assertEqual(sheet.wrong(), 2)
        sheet = Sheet([20, -20], ((1, 90, 7), (1, 9, 7)), walls(PAIR))
        self.assertEqual(sheet.wrong(), 3)
        sheet = Sheet([5, -5], ((1, 90, 7), (1, 9, 7)), walls(PAIR))
        self.assertIsNone(sheet.wrong())


class TestPrices(MakingTest):
    def test_no_rows(self):
        for net in NETS:
            self.assertEqual(prices(net, NO_ROWS), [(7, 2)] * net[0])
            self.assertEqual(prices(net, ((0, 1), ())), [(0, 1)] * net[0])

    def test_one_row(self):
        self.assertEqual(prices(PAIR, ((5, 1), ((-1, 0, 1, (4, 1)),))), [(5, 1), (9, 1)])
        self.assertEqual(prices(PAIR, ((5, 1), ((-1, 0, -1, (4, 1)),))), [(5, 1), (1, 1)])
        self.assertEqual(prices(TWINS, ((0, 1), ((-1, 1, 1, (5, 1)),))), [(0, 1), (-3, 1)])
        self.assertEqual(prices(TWINS, ((0, 1), ((0, 1, 1, (5, 1)),))), [(0, 1), (-5, 1)])

    def test_several_rows_with_a_line_lost(self):
        weights = ((3, 1), ((-1, 0, 1, (2, 1)), (2, 1, -1, (1, 2))))
        self.assertEqual(prices(TRIANGLE, weights), [(3, 1), (13, 3), (19, 6)])

    def test_the_most_of_a_line_does_not_matter(self):
        self.assertEqual(prices((2, ((0, 1, 1, 0),)), ((5, 1), ((-1, 0, 1, (4, 1)),))), [(5, 1), (9, 1)])

    def test_drawn_weights(self):
        numbers = Numbers(101)
        for net in NETS + tuple(numbers.any_net() for _ in range(25)):
            reckoner = Reckoner(net)
            for many in (0, 1, 2, 3, 5, 8, 11, 12):
                weights = drawn_weights(numbers, net, many)
                found = prices(net, weights)
                self.assertIs(type(found), list)
                self.assertTrue(all(is_fraction(price) for price in found))
                self.assertEqual([worth(price) for price in found], reckoner.prices(weights), (net, weights))

    def test_large_fractions(self):
        numbers = Numbers(103)
        for net in (TWINS, TRIANGLE, FULL):
            weights = drawn_weights(numbers, net, 12, 10 ** 40 - 1)
            self.assertEqual([worth(price) for price in prices(net, weights)], Reckoner(net).prices(weights))

    def test_told_lists_are_new_ones(self):
        for net in NETS:
            assert_own(self, prices, net, drawn_weights(Numbers(107), net, 3))


class TestShown(MakingTest):
    BASE = [0, -4, 1]
    BLOCKS = ((1, 10, 2), (2, 6, 5), (0, 3, 3))
    WEIGHTS = ((3, 1), ((-1, 0, 1, (2, 1)), (2, 1, -1, (1, 2))))

    def test_written_out(self):
        # The prices are 3, 13/3 and 19/6.
        gained = 10 * (2 - Fraction(13, 3))
        put = -4 * Fraction(13, 3) + Fraction(19, 6)
        borne = 2 * 5 + Fraction(1, 2) * 6
        self.assertEqual(gained - put - borne, Fraction(-133, 6))
        self.assertEqual(shown(TRIANGLE, self.BASE, self.BLOCKS, self.WEIGHTS), (-133, 6))

    def test_written_out_at_nought(self):
        gained = -10 * Fraction(13, 3) - 6 * Fraction(19, 6) - 3 * 3
        put = -4 * Fraction(13, 3) + Fraction(19, 6)
        self.assertEqual(gained - put - 13, Fraction(-421, 6))
        self.assertEqual(shown_at_nought(TRIANGLE, self.BASE, self.BLOCKS, self.WEIGHTS), (-421, 6))

    def test_no_rows(self):
        self.assertEqual(shown(ALONE, [-10], ((0, 4, 3), (0, 9, 5)), ((5, 1), ())), (42, 1))
        self.assertEqual(shown(ALONE, [-10], ((0, 4, 3), (0, 9, 5)), ((4, 1), ())), (36, 1))
        self.assertEqual(shown_at_nought(ALONE, [-10], ((0, 4, 3), (0, 9, 5)), ((1, 1), ())), (-3, 1))
        self.assertEqual(shown_at_nought(ALONE, [-20], ((0, 4, 3), (0, 9, 5)), ((1, 1), ())), (7, 1))
        self.assertEqual(shown_at_nought(ALONE, [6], ((0, 4, 3), (0, 9, 5)), ((-1, 1), ())), (6, 1))

    def test_no_blocks(self):
        self.assertEqual(shown(PAIR, [12, -12], (), ((0, 1), ((-1, 0, 1, (1, 1)),))), (2, 1))
        self.assertEqual(shown_at_nought(PAIR, [12, -12], (), ((0, 1), ((-1, 0, 1, (1, 1)),))), (2, 1))
        self.assertEqual(shown(PAIR, [0, 0], (), NO_ROWS), (0, 1))

    def test_a_block_at_just_the_price(self):
        self.assertEqual(shown(ALONE, [0], ((0, 99, 5),), ((5, 1), ())), (0, 1))
        self.assertEqual(shown(ALONE, [0], ((0, 99, 5),), ((6, 1), ())), (-99, 1))
        self.assertEqual(shown(ALONE, [0], ((0, 99, 5),), ((4, 1), ())), (0, 1))

    def test_drawn(self):
        numbers = Numbers(109)
        for net in NETS + tuple(numbers.any_net() for _ in range(25)):
            reckoner = Reckoner(net)
            for many in (0, 1, 2, 3, 7, 12):
                weights = drawn_weights(numbers, net, many)
                base = [numbers.within(-400, 400) for _ in range(net[0])]
                blocks = drawn_blocks(numbers, net, numbers.below(11), range(100), range(30))
                for asked, wanted in ((shown, reckoner.shown), (shown_at_nought, reckoner.shown_at_nought)):
                    found = asked(net, base, blocks, weights)
                    self.assertIs(is_fraction(found), True)
                    self.assertEqual(worth(found), wanted(base, blocks, weights), (net, base, blocks, weights))

    def test_no_making_costs_less(self):
        numbers = Numbers(113)
        for _ in range(60):
            net = numbers.any_net((20, 50, 99))
            blocks = drawn_blocks(numbers, net, 6, range(40), range(50))
            base = [-numbers.below(30) for _ in range(net[0])]
            found = cheapest(net, base, blocks)
            for many in (0, 1, 4, 12):
                weights = drawn_weights(numbers, net, many)
                if found[0] == "made":
                    self.assertLessEqual(worth(shown(net, base, blocks, weights)), worth(found[1]))
                    self.assertLessEqual(worth(shown_at_nought(net, base, blocks, weights)), 0)

    def test_what_is_handed_in_stays_as_it_was(self):
        assert_unchanged(self, prices, TRIANGLE, self.WEIGHTS)
        assert_unchanged(self, shown, TRIANGLE, list(self.BASE), self.BLOCKS, self.WEIGHTS)
        assert_unchanged(self, shown_at_nought, TRIANGLE, list(self.BASE), self.BLOCKS, self.WEIGHTS)


class TestCheapest(MakingTest):
    def test_one_place(self):
        reckoner = Reckoner(ALONE)
        blocks = ((0, 9, 5), (0, 4, 3))
        self.assertEqual(cheapest(ALONE, [-10], blocks), ("made", (42, 1), [(6, 1), (4, 1)], ((5, 1), ())))
        self.assertEqual(cheapest(ALONE, [-3], blocks), ("made", (9, 1), [(0, 1), (3, 1)], ((3, 1), ())))
        for base in (0, -4, -13):
            self.assertEqual(self.assert_cheapest(reckoner, [base], blocks)[0], "made")
        for base in (1, -14, 400, -400):
            self.assertEqual(self.assert_cheapest(reckoner, [base], blocks)[0], "none")

    def test_no_blocks(self):
        self.assertEqual(cheapest(ALONE, [0], ())[:3], ("made", (0, 1), []))
        for net in NETS:
            reckoner = Reckoner(net)
            noughts = [0] * net[0]
            self.assertEqual(self.assert_cheapest(reckoner, noughts, ())[0], "made")
            for part in (1, -1, 400, -400):
                self.assertEqual(self.assert_cheapest(reckoner, noughts[1:] + [part], ())[0], "none")
            if net[0] > 1:
                self.assertEqual(self.assert_cheapest(reckoner, [4] + noughts[2:] + [-4], ())[0], "made")
                self.assertEqual(self.assert_cheapest(reckoner, [99] + noughts[2:] + [-99], ())[0], "none")
                self.assertEqual(self.assert_cheapest(reckoner, [-99] + noughts[2:] + [99], ())[0], "none")

    def test_no_limit_met(self):
        found = cheapest(PAIR, [0, -5], ((0, 20, 5), (1, 20, 9)))
        self.assertEqual(found, ("made", (25, 1), [(5, 1), (0, 1)], ((5, 1), ())))

    def test_a_limit_met(self):
        found = cheapest(PAIR, [0, -15], ((0, 20, 5), (1, 20, 9)))
        self.assertEqual(found, ("made", (95, 1), [(10, 1), (5, 1)], ((5, 1), ((-1, 0, 1, (4, 1)),))))
        found = cheapest(PAIR, [-15, 0], ((0, 20, 9), (1, 20, 5)))
        self.assertEqual(found, ("made", (95, 1), [(5, 1), (10, 1)], ((9, 1), ((-1, 0, -1, (4, 1)),))))

    def test_a_limit_met_with_a_line_lost(self):
        found = cheapest(TWINS, [0, -15], ((0, 20, 5), (1, 20, 9)))
        self.assertEqual(found, ("made", (95, 1), [(10, 1), (5, 1)], ((5, 1), ((1, 0, 1, (4, 1)),))))

    def test_amounts_that_are_fractions(self):
        net = (3, ((0, 1, 1, 1), (1, 2, 1, 99), (0, 2, 1, 99), (0, 2, 1, 99)))
        found = self.assert_cheapest(Reckoner(net), [0, 0, -10], ((0, 20, 5), (1, 20, 9), (2, 20, 30)))
        self.assertEqual(found[0], "made")

    def test_too_little_behind_a_line(self):
        blocks = ((0, 20, 5), (1, 20, 9))
        reckoner = Reckoner(PAIR)
        self.assertEqual(self.assert_cheapest(reckoner, [0, -30], blocks)[0], "made")
        self.assertEqual(self.assert_cheapest(reckoner, [0, -31], blocks)[0], "none")
        self.assertEqual(self.assert_cheapest(reckoner, [-30, 0], blocks)[0], "made")
        self.assertEqual(self.assert_cheapest(reckoner, [-31, 0], blocks)[0], "none")
        self.assertEqual(self.assert_cheapest(reckoner, [10, -10], blocks)[0], "made")
        self.assertEqual(self.assert_cheapest(reckoner, [11, -11], blocks)[0], "none")

    def test_no_making_balances(self):
        for net in NETS:
            reckoner = Reckoner(net)
            blocks = tuple((place % net[0], 10, place) for place in range(10))
            for total in (1, 400, -101, -400):
                base = [total] + [0] * (net[0] - 1)
                self.assertEqual(self.assert_cheapest(reckoner, base, blocks)[0], "none")

    def test_widths_of_nought(self):
        for net in NETS:
            reckoner = Reckoner(net)
            blocks = tuple((place % net[0], 0, 10 - place) for place in range(10))
            self.assertEqual(self.assert_cheapest(reckoner, [0] * net[0], blocks)[0], "made")
            self.assertEqual(self.assert_cheapest(reckoner, [1] * net[0], blocks)[0], "none")
            self.assertEqual(self.assert_cheapest(reckoner, [-1] * net[0], blocks)[0], "none")

    def test_prices_of_nought(self):
        for net in NETS:
            reckoner = Reckoner(net)
            blocks = tuple((place % net[0], 9, 0) for place in range(10))
            self.assertEqual(self.assert_cheapest(reckoner, [-2] * net[0], blocks)[1], (0, 1))

    def test_edges_of_numbers(self):
        net = (2, ((0, 1, 9, 99),))
        found = self.assert_cheapest(Reckoner(net), [400, -400], ((1, 99, 999),))
        self.assertEqual(found[0], "none")
        found = self.assert_cheapest(Reckoner(net), [0, -198], ((0, 99, 999), (1, 99, 999)))
        self.assertEqual(found[1], (198 * 999, 1))

    def test_the_order_of_blocks(self):
        numbers = Numbers(127)
        for net in (TRIANGLE, RING_AND_TAIL, FULL):
            reckoner = Reckoner(net)
            blocks = drawn_blocks(numbers, net, 8, range(5, 30), range(100))
            base = [-numbers.below(12) for _ in range(net[0])]
            costs = {self.assert_cheapest(reckoner, base, tuple(numbers.mixed(blocks)))[:2] for _ in range(8)}
            if "made" in [cost[0] for cost in costs]:
                self.assertEqual(len(costs), 1)


class TestDrawn(MakingTest):
    def go_through(self, numbers, nets, times, base, blocks):
        seen = {"made": 0, "none": 0}
        rows = {}
        for net in nets:
            reckoner = Reckoner(net)
            for _ in range(times):
                found = self.assert_cheapest(reckoner, base(net), blocks(net))
                seen[found[0]] += 1
                rows[len(found[-1][1])] = rows.get(len(found[-1][1]), 0) + 1
        return seen, rows

    def test_all_sizes(self):
        numbers = Numbers(131)
        nets = NETS + tuple(numbers.any_net(numbers.one_of((range(100), (5, 10, 20), (0, 3, 40)))) for _ in range(60))
        seen, rows = self.go_through(numbers, nets, 12, lambda net: [numbers.within(-40, 15) for _ in range(net[0])],
                                     lambda net: drawn_blocks(numbers, net, numbers.below(11), range(60), range(40)))
        self.assertGreater(min(seen.values()), 150)

    def test_ten_blocks_and_seventy_limits(self):
        numbers = Numbers(137)
        nets = [numbers.net(4, 6, range(10, 60)) for _ in range(40)]
        seen, rows = self.go_through(numbers, nets, 12, lambda net: [-numbers.below(50) for _ in range(4)],
                                     lambda net: drawn_blocks(numbers, net, 10, range(10, 40), range(1000)))
        self.assertGreater(min(seen.values()), 30)
        self.assertGreater(rows[1], 50)
        self.assertGreater(rows[2], 20)

    def test_many_limits_met_at_once(self):
        numbers = Numbers(139)
        nets = [numbers.net(4, lines, range(3, 20)) for lines in (3, 4, 4, 5, 5, 5, 6, 6, 6, 6) * 3]
        seen, rows = self.go_through(numbers, nets, 12, lambda net: [-numbers.below(14) for _ in range(4)],
                                     lambda net: drawn_blocks(numbers, net, 10, range(10, 40), range(1000)))
        self.assertGreater(rows[3], 5)

    def test_things_that_could_be_chosen_alike(self):
        numbers = Numbers(149)
        nets = [(many, tuple((one, other, 1, most) for one, other, stiffness, old in numbers.net(many, 6)[1]))
                for many in (2, 3, 4, 4) for most in (0, 1, 5, 10, 20)]
        seen, rows = self.go_through(
            numbers, nets, 12, lambda net: [numbers.one_of((-10, -5, 0, 5)) for _ in range(net[0])],
            lambda net: drawn_blocks(numbers, net, 10, (0, 5, 10), (7, 7, 7, 8)))
        self.assertGreater(min(seen.values()), 20)

    def test_parallel_lines_of_nought(self):
        for many in (1, 2, 3, 6):
            net = (2, ((0, 1, 3, 0),) * many)
            reckoner = Reckoner(net)
            blocks = ((0, 10, 5), (1, 10, 5)) * 5
            self.assertEqual(self.assert_cheapest(reckoner, [0, 0], blocks)[:2], ("made", (0, 1)))
            self.assertEqual(self.assert_cheapest(reckoner, [-50, -50], blocks)[:2], ("made", (500, 1)))
            self.assertEqual(self.assert_cheapest(reckoner, [-7, -11], blocks)[:2], ("made", (90, 1)))
            self.assertEqual(self.assert_cheapest(reckoner, [-51, -49], blocks)[0], "none")
            self.assertEqual(self.assert_cheapest(reckoner, [1, -11], blocks)[0], "none")

    def test_far_bases(self):
        numbers = Numbers(151)
        nets = [numbers.any_net((99, 50)) for _ in range(20)]
        self.go_through(numbers, nets, 10, lambda net: [numbers.one_of((-400, -99, 0, 400)) for _ in range(net[0])],
                        lambda net: drawn_blocks(numbers, net, 10, (0, 99), (0, 999)))

    def test_a_base_that_takes_out_more_or_less(self):
        numbers = Numbers(157)
        asked = 0
        for _ in range(80):
            net = numbers.any_net((10, 20, 40))
            blocks = drawn_blocks(numbers, net, 8, range(10, 30), range(60))
            base = [-numbers.below(15) for _ in range(net[0])]
            found = cheapest(net, base, blocks)
            if found[0] == "made":
                for place, price in enumerate(prices(net, found[3])):
                    for more in (-7, -1, 1, 4):
                        other = cheapest(net, base[:place] + [base[place] - more] + base[place + 1:], blocks)
                        if other[0] == "made":
                            asked += 1
                            self.assertGreaterEqual(worth(other[1]) - worth(found[1]), more * worth(price))
        self.assertGreater(asked, 300)


class TestNothingIsKept(MakingTest):
    def test_told_lists_are_new_ones(self):
        base, blocks = [0, -15], ((0, 20, 5), (1, 20, 9))
        first, second = cheapest(PAIR, base, blocks), cheapest(PAIR, base, blocks)
        self.assertEqual(first, second)
        self.assertIsNot(first[2], second[2])
        first[2].clear()
        self.assertEqual(second[2], [(10, 1), (5, 1)])
        self.assertEqual(cheapest(PAIR, base, blocks), second)

    def test_later_changes_of_the_base_change_no_answer(self):
        base, blocks = [0, -15], ((0, 20, 5), (1, 20, 9))
        found = cheapest(PAIR, base, blocks)
        base[1] = -5
        self.assertEqual(found[2], [(10, 1), (5, 1)])
        self.assertEqual(cheapest(PAIR, base, blocks)[2], [(5, 1), (0, 1)])
        base[1] = -15
        self.assertEqual(cheapest(PAIR, base, blocks), found)

    def test_what_was_told_is_handed_in_again(self):
        numbers = Numbers(163)
        for net in NETS:
            blocks = drawn_blocks(numbers, net, 10, range(20), range(100))
            found = cheapest(net, [-5] * net[0], blocks)
            if found[0] == "made":
                self.assertEqual(shown(net, [-5] * net[0], blocks, found[3]), found[1])
            else:
                self.assertGreater(shown_at_nought(net, [-5] * net[0], blocks, found[1])[0], 0)


if __name__ == "__main__":
    unittest.main()
