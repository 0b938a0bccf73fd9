"""Makings, reckoned in fractions without the program, and a test that holds told makings against that."""

import copy
import unittest
from fractions import Fraction

from drawn import all_limits, beyond_by_limit, losable_lines, ratio, running_without, worth
from mainskeep.fractions import is_fraction
from mainskeep.making import cheapest


class Reckoner:
    """Points 12 and 13 for one net, written out in fractions, by streams that the program has no hand in."""

    def __init__(self, net):
        self.net = net
        self.shares = {lost: [running_without(net, [(at == place) - (at == 0) for at in range(net[0])], lost)
                              for place in range(net[0])] for lost in [-1] + losable_lines(net)}

    def prices(self, weights):
        level, rows = weights
        return [worth(level) - sum(worth(weight) * side * self.shares[lost][place][line]
                                   for lost, line, side, weight in rows) for place in range(self.net[0])]

    def shown(self, base, blocks, weights):
        by_place = self.prices(weights)
        gained = sum(width * min(Fraction(0), price - by_place[place]) for place, width, price in blocks)
        put = sum(price * part for price, part in zip(by_place, base))
        borne = sum(worth(weight) * self.net[1][line][3] for lost, line, side, weight in weights[1])
        return gained - put - borne

    def shown_at_nought(self, base, blocks, weights):
        return self.shown(base, [(place, width, 0) for place, width, price in blocks], weights)


def drawn_weights(numbers, net, many, bound=20):
    rows = numbers.mixed(all_limits(net))[:many]
    return (numbers.fraction(bound), tuple((*row, ratio(numbers.below(bound) + 1, numbers.below(bound) + 1))
                                           for row in sorted(rows)))


class MakingTest(unittest.TestCase):
    def assert_weights(self, net, weights):
        """Weights are in their form."""
        self.assertIs(type(weights), tuple)
        level, rows = weights
        self.assertIs(is_fraction(level), True)
        self.assertIs(type(rows), tuple)
        self.assertLessEqual(len(rows), 12)
        told = [row[:3] for row in rows]
        self.assertEqual(told, sorted(set(told)))
        can = all_limits(net)
        for row in rows:
            self.assertIs(type(row), tuple)
            self.assertEqual(len(row), 4)
            self.assertEqual([type(part) for part in row[:3]], [int, int, int])
            self.assertIn(row[:3], can)
            self.assertIs(is_fraction(row[3]), True)
            self.assertGreater(row[3][0], 0)

    def assert_fits(self, net, base, blocks, amounts):
        self.assertIs(type(amounts), list)
        self.assertEqual(len(amounts), len(blocks))
        puts = [Fraction(part) for part in base]
        for amount, (place, width, price) in zip(amounts, blocks):
            self.assertIs(is_fraction(amount), True)
            self.assertGreaterEqual(worth(amount), 0)
            self.assertLessEqual(worth(amount), width)
            puts[place] += worth(amount)
        self.assertEqual(sum(puts), 0)
        self.assertTrue(all(beyond <= 0 for beyond in beyond_by_limit(net, puts).values()))
        return puts

    def assert_made(self, reckoner, base, blocks, found):
        net = reckoner.net
        self.assertEqual(len(found), 4)
        word, cost, amounts, weights = found
        puts = self.assert_fits(net, base, blocks, amounts)
        self.assertIs(is_fraction(cost), True)
        self.assertEqual(worth(cost), sum(worth(amount) * block[2] for amount, block in zip(amounts, blocks)))
        self.assert_weights(net, weights)
        self.assertEqual(reckoner.shown(base, blocks, weights), worth(cost), (net, base, blocks))
        by_place = reckoner.prices(weights)
        for amount, (place, width, price) in zip(amounts, blocks):
            if price > by_place[place]:
                self.assertEqual(amount, (0, 1))
            if price < by_place[place]:
                self.assertEqual(amount, (width, 1))
        # All that is paid at the prices is what the lines bear in rent.
        rents = sum(worth(weight) * net[1][line][3] for lost, line, side, weight in weights[1])
        self.assertEqual(sum(price * put for price, put in zip(by_place, puts)), -rents)

    def assert_none(self, reckoner, base, blocks, found):
        self.assertEqual(len(found), 2)
        self.assert_weights(reckoner.net, found[1])
        self.assertGreater(reckoner.shown_at_nought(base, blocks, found[1]), 0, (reckoner.net, base, blocks))

    def assert_cheapest(self, reckoner, base, blocks):
        """An answer holds against points 12 and 13, whichever one it is; told is its first word."""
        before = copy.deepcopy((reckoner.net, base, blocks))
        found = cheapest(reckoner.net, base, blocks)
        self.assertEqual((reckoner.net, base, blocks), before)
        self.assertIs(type(found), tuple)
        self.assertIn(found[0], ("made", "none"))
        if found[0] == "made":
            self.assert_made(reckoner, base, blocks, found)
        else:
            self.assert_none(reckoner, base, blocks, found)
        return found
