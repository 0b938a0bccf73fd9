"""Points 2, 3 and 11: limits, those that puts break, and whether puts keep all."""

import unittest

from drawn import LONG, Numbers, all_limits, assert_own, assert_unchanged, beyond_by_limit, ratio, worth
from mainskeep.fractions import is_fraction
from mainskeep.limits import broken, keeps, limits
from mainskeep.nets import losable

ALONE = (1, ())
PAIR = (2, ((1, 0, 4, 3),))
TWINS = (2, ((0, 1, 4, 10), (1, 0, 6, 20)))
TRIANGLE = (3, ((0, 1, 1, 5), (1, 2, 1, 6), (0, 2, 1, 7)))
RING_AND_TAIL = (4, ((3, 2, 1, 8), (0, 1, 1, 5), (1, 2, 2, 6), (2, 0, 3, 7)))
FULL = (4, ((0, 1, 1, 1), (0, 2, 2, 2), (0, 3, 3, 3), (1, 2, 4, 4), (1, 3, 5, 5), (2, 3, 6, 6)))
NETS = (ALONE, PAIR, TWINS, TRIANGLE, RING_AND_TAIL, FULL)


def whole(*numbers):
    return [(number, 1) for number in numbers]


def told(beyond):
    """What is told of limits, for how far each stream is beyond its most."""
    return [(*limit, ratio(beyond[limit])) for limit in sorted(beyond) if beyond[limit] > 0]


class TestLimits(unittest.TestCase):
    def test_one_place(self):
        self.assertEqual(limits(ALONE), [])

    def test_no_line_can_be_lost(self):
        self.assertEqual(limits(PAIR), [(-1, 0, -1), (-1, 0, 1)])
        self.assertEqual(limits((3, ((0, 1, 1, 1), (1, 2, 1, 1)))),
                         [(-1, 0, -1), (-1, 0, 1), (-1, 1, -1), (-1, 1, 1)])

    def test_lines_between_the_same_two(self):
        self.assertEqual(limits(TWINS), [(-1, 0, -1), (-1, 0, 1), (-1, 1, -1), (-1, 1, 1), (0, 1, -1), (0, 1, 1),
                                         (1, 0, -1), (1, 0, 1)])

    def test_some_can_be_lost(self):
        found = limits(RING_AND_TAIL)
        self.assertEqual(found[:8], [(-1, line, side) for line in range(4) for side in (-1, 1)])
        self.assertEqual(found[8:14], [(1, 0, -1), (1, 0, 1), (1, 2, -1), (1, 2, 1), (1, 3, -1), (1, 3, 1)])
        self.assertEqual(len(found), 8 + 3 * 6)

    def test_all_can_be_lost(self):
        self.assertEqual(len(limits(FULL)), 12 + 6 * 10)

    def test_drawn_nets(self):
        numbers = Numbers(67)
        for _ in range(200):
            net = numbers.any_net()
            found = limits(net)
            self.assertEqual(found, all_limits(net))
            self.assertEqual(found, sorted(set(found)))
            self.assertTrue(all(type(part) is int for limit in found for part in limit))
            self.assertTrue(all(type(limit) is tuple for limit in found))

    def test_told_lists_are_new_ones(self):
        for net in NETS:
            assert_own(self, limits, net)


class TestBroken(unittest.TestCase):
    def assert_broken(self, net, puts, wanted):
        found = broken(net, puts)
        self.assertEqual(found, wanted, (net, puts))
        self.assertIs(type(found), list)
        for lost, line, side, beyond in found:
            self.assertIs(is_fraction(beyond), True)
            self.assertGreater(beyond[0], 0)
        self.assertIs(keeps(net, puts), not wanted, (net, puts))

    def test_one_place(self):
        self.assert_broken(ALONE, whole(0), [])

    def test_just_the_most_and_one_more(self):
        self.assert_broken(PAIR, whole(3, -3), [])
        self.assert_broken(PAIR, whole(-3, 3), [])
        self.assert_broken(PAIR, whole(4, -4), [(-1, 0, -1, (1, 1))])
        self.assert_broken(PAIR, whole(-4, 4), [(-1, 0, 1, (1, 1))])
        self.assert_broken(PAIR, [(LONG * 3 + 1, LONG), (-LONG * 3 - 1, LONG)], [(-1, 0, -1, (1, LONG))])
        self.assert_broken(PAIR, [(LONG * 3 - 1, LONG), (1 - LONG * 3, LONG)], [])

    def test_a_most_of_nought(self):
        net = (2, ((0, 1, 9, 0),))
        self.assert_broken(net, whole(0, 0), [])
        self.assert_broken(net, [(1, 7), (-1, 7)], [(-1, 0, 1, (1, 7))])
        self.assert_broken(net, [(-1, 7), (1, 7)], [(-1, 0, -1, (1, 7))])

    def test_only_with_a_line_lost(self):
        self.assert_broken(TWINS, whole(10, -10), [])
        self.assert_broken(TWINS, whole(11, -11), [(1, 0, 1, (1, 1))])
        self.assert_broken(TWINS, whole(-11, 11), [(1, 0, -1, (1, 1))])
        self.assert_broken(TWINS, whole(20, -20), [(1, 0, 1, (10, 1))])
        self.assert_broken(TWINS, whole(21, -21), [(0, 1, -1, (1, 1)), (1, 0, 1, (11, 1))])
        self.assert_broken(TWINS, whole(25, -25), [(0, 1, -1, (5, 1)), (1, 0, 1, (15, 1))])
        self.assert_broken(TWINS, whole(26, -26), [(-1, 0, 1, (2, 5)), (0, 1, -1, (6, 1)), (1, 0, 1, (16, 1))])

    def test_three_places(self):
        self.assert_broken(TRIANGLE, whole(5, 0, -5), [])
        self.assert_broken(TRIANGLE, whole(6, 0, -6), [(2, 0, 1, (1, 1))])
        self.assert_broken(TRIANGLE, whole(0, 12, -12), [
            (-1, 1, 1, (2, 1)), (0, 1, 1, (6, 1)), (1, 0, -1, (7, 1)), (1, 2, 1, (5, 1)), (2, 1, 1, (6, 1))])

    def test_a_line_that_can_not_be_lost(self):
        self.assert_broken(RING_AND_TAIL, whole(0, 0, -9, 9), [
            (-1, 0, 1, (1, 1)), (1, 0, 1, (1, 1)), (2, 0, 1, (1, 1)), (3, 0, 1, (1, 1))])

    def test_drawn_nets(self):
        numbers = Numbers(71)
        kept = 0
        for _ in range(250):
            net = numbers.any_net(numbers.one_of((range(100), (0, 1, 2), (20, 30, 40))))
            puts = numbers.puts(net[0], 30)
            beyond = beyond_by_limit(net, [worth(put) for put in puts])
            self.assert_broken(net, puts, told(beyond))
            kept += not broken(net, puts)
        self.assertGreater(kept, 40)
        self.assertLess(kept, 210)

    def test_each_limit_is_broken_by_some_puts(self):
        numbers = Numbers(73)
        seen = set()
        for _ in range(120):
            seen |= {entry[:3] for entry in broken(FULL, numbers.puts(4, 60))}
        self.assertEqual(seen, set(limits(FULL)))

    def test_just_at_each_limit(self):
        numbers = Numbers(79)
        for net in NETS[1:]:
            lines = net[1]
            for _ in range(6):
                puts = numbers.puts(net[0], 40)
                worst = max(beyond_by_limit(net, [worth(put) for put in puts]).items(), key=lambda pair: pair[1])
                (lost, line, side), beyond = worst
                # Puts made less, or greater, so that the line bears just its most there.
                if beyond + lines[line][3] > 0:
                    part = lines[line][3] / (beyond + lines[line][3])
                    fitting = [ratio(worth(put) * part) for put in puts]
                    self.assertNotIn((lost, line, side), [entry[:3] for entry in broken(net, fitting)])
                    beside = [ratio(worth(put) * (part + part / LONG)) for put in puts]
                    self.assertIn((lost, line, side), [entry[:3] for entry in broken(net, beside)])
                    self.assertIs(keeps(net, beside), False)

    def test_large_fractions(self):
        numbers = Numbers(83)
        for net in NETS[1:]:
            puts = numbers.puts(net[0], LONG)
            beyond = beyond_by_limit(net, [worth(put) for put in puts])
            self.assert_broken(net, puts, told(beyond))

    def test_what_is_handed_in_stays_as_it_was(self):
        for puts in (whole(3, 0, -3), whole(30, 0, -30)):
            assert_unchanged(self, broken, TRIANGLE, puts)
            assert_unchanged(self, keeps, TRIANGLE, puts)

    def test_told_lists_are_new_ones(self):
        for net in NETS:
            assert_own(self, broken, net, Numbers(89).puts(net[0], 60))

    def test_later_changes_of_puts_change_no_answer(self):
        puts = whole(11, -11)
        found = broken(TWINS, puts)
        puts[0], puts[1] = (0, 1), (0, 1)
        self.assertEqual(found, [(1, 0, 1, (1, 1))])
        self.assertEqual(broken(TWINS, puts), [])
        self.assertEqual(losable(TWINS), [0, 1])


if __name__ == "__main__":
    unittest.main()
