"""Points 1 and 3 over the whole program: from a text to a run, its paper, its payments, settled, and at a desk."""

import unittest
from fractions import Fraction

from drawn import Numbers, beyond_by_limit, put_at, ratio, worth
from housed import HOUSES, HouseTest, Looker, case_base, case_blocks, drawn_house
from mainskeep.cases import base, blocks, is_whole, turning
from mainskeep.desk import Desk
from mainskeep.errors import NoPaper
from mainskeep.limits import broken, keeps
from mainskeep.looker import look
from mainskeep.making import cheapest, prices, shown
from mainskeep.money import owed, paid, settled
from mainskeep.nets import losable, without
from mainskeep.papers import least_paper
from mainskeep.runs import cheapest_run
from mainskeep.streams import behind_loss, streams
from mainskeep.texts import read_house, show_fraction, show_house


class WholeTest(HouseTest):
    def assert_streams(self, net, puts):
        """No line bears more than it may, whichever one is lost, and the limits say the same."""
        self.assertEqual(broken(net, puts), [])
        self.assertIs(keeps(net, puts), True)
        found = streams(net, puts)
        for line, stream in enumerate(found):
            self.assertLessEqual(abs(worth(stream)), net[1][line][3])
        for lost in losable(net):
            left = streams(without(net, lost), puts)
            self.assertEqual(behind_loss(net, puts, lost), left[:lost] + [(0, 1)] + left[lost:])
            for line, stream in enumerate(behind_loss(net, puts, lost)):
                self.assertLessEqual(abs(worth(stream)), net[1][line][3])

    def assert_hour(self, house, hour, entry):
        """What the program's parts say of an hour agrees, and its payments close."""
        case, amounts, weights = entry
        given = (base(house, hour, case), blocks(house, hour, case))
        made = cheapest(house[0], *given)
        self.assertEqual(made[0], "made")
        self.assertEqual(shown(house[0], *given, weights), made[1])
        puts = [Fraction(part) for part in given[0]]
        for amount, block in zip(amounts, given[1]):
            puts[block[0]] += worth(amount)
        self.assert_streams(house[0], [ratio(put) for put in puts])
        wants, works, store, rents = paid(house, hour, entry)
        self.assertEqual(sum(map(worth, wants)), sum(map(worth, [*works, store, *rents])))

    def assert_prices_bear(self, house, hour, entry):
        """A base that takes out more at a place costs at least the price for each unit more."""
        case, amounts, weights = entry
        given, parts = case_base(house, hour, case), case_blocks(house, hour, case)
        cost = worth(cheapest(house[0], given, parts)[1])
        for place, price in enumerate(prices(house[0], weights)):
            for more in (-3, -1, 1, 2):
                other = cheapest(house[0], put_at(given, (place,), given[place] - more), parts)
                if other[0] == "made":
                    self.assertGreaterEqual(worth(other[1]) - cost, more * worth(price))

    def assert_house(self, text):
        house = read_house(text)
        self.assertEqual(show_house(house), text)
        run, paper = cheapest_run(house), least_paper(house)
        self.assertIsNone(look(house, paper))
        self.assertIsNone(Looker(house).fault(paper))
        desk = Desk(text)
        self.assertEqual(desk.say("house"), text.replace("\n", ";"))
        if run is None:
            self.assertIsNone(paper[1])
            self.assertEqual(desk.say("cost"), "none")
            return False
        self.assertEqual(paper[1], run[0])
        self.assert_run(house, run)
        row = [entry[0] for entry in run[1]]
        self.assertIs(is_whole(house, row), True)
        self.assertIs(type(turning(house, row)), int)
        for hour, entry in enumerate(run[1]):
            self.assert_hour(house, hour, entry)
        self.assert_prices_bear(house, 0, run[1][0])
        for amounts, weights, turns in settled(house, run, house[3]):
            self.assertEqual(sum(map(worth, turns)), 0)
        self.assertEqual(desk.say("cost"), show_fraction(run[0]))
        self.assertEqual(desk.say("owed"), " ".join(map(show_fraction, owed(house, run))) or "-")
        self.assert_no_greater_number(house, paper)
        return True

    def assert_no_greater_number(self, house, paper):
        word, number, bounds, tables = paper
        more = ratio(worth(number) + Fraction(1, 10 ** 30))
        with self.assertRaises(NoPaper) as caught:
            look(house, (word, more, bounds, (((tables[0][0][0], more),),) + tables[1:]))
        self.assertEqual(caught.exception.at, 3)


class TestWhole(WholeTest):
    def test_written_houses(self):
        self.assertEqual([self.assert_house(show_house(house)) for house in HOUSES], [True, True, False, True, True])

    def test_drawn_houses(self):
        numbers = Numbers(347)
        seen = {True: 0, False: 0}
        for _ in range(80):
            seen[self.assert_house(show_house(drawn_house(numbers)))] += 1
        self.assertGreater(min(seen.values()), 5, seen)

    def test_houses_whose_lines_bind(self):
        numbers = Numbers(349)
        for _ in range(25):
            self.assert_house(show_house(drawn_house(numbers, numbers.within(1, 3), 2, mosts=(1, 3, 6))))


if __name__ == "__main__":
    unittest.main()
