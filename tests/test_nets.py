"""Points 2, 6 and 7: nets, the lines that can be lost, the net without one."""

import unittest

from drawn import (LONG, OTHER_THINGS, Numbers, assert_own, assert_unchanged, is_joined, losable_lines, part_at, put_at,
                   places_of, spoilt)
from mainskeep.errors import MainsError, NoLine, NoLoss
from mainskeep.nets import is_net, losable, without

TRIANGLE = (3, ((0, 1, 1, 5), (1, 2, 2, 6), (0, 2, 3, 7)))
CHAIN = (4, ((0, 1, 1, 5), (1, 2, 2, 6), (2, 3, 3, 7)))
TWINS = (2, ((0, 1, 4, 10), (1, 0, 5, 20)))
# A ring of three places, and a fourth one that hangs on one line alone.
RING_AND_TAIL = (4, ((3, 2, 1, 8), (0, 1, 1, 5), (1, 2, 2, 6), (2, 0, 3, 7)))
NETS = (
    (1, ()),
    (2, ((0, 1, 1, 0),)),
    (2, ((1, 0, 9, 99),)),
    TWINS,
    (2, ((0, 1, 1, 1),) * 6),
    TRIANGLE,
    (3, ((0, 1, 1, 5), (0, 1, 1, 5), (2, 1, 9, 0))),
    CHAIN,
    RING_AND_TAIL,
    (4, ((0, 1, 1, 1), (0, 2, 2, 2), (0, 3, 3, 3), (1, 2, 4, 4), (1, 3, 5, 5), (2, 3, 6, 6))),
)


class TestIsNet(unittest.TestCase):
    def assert_is(self, wanted, *things):
        for thing in things:
            with self.subTest(thing=thing):
                self.assertIs(is_net(thing), wanted)

    def test_ordinary_nets(self):
        self.assert_is(True, *NETS)

    def test_other_kinds(self):
        self.assert_is(False, *OTHER_THINGS)

    def test_things_near_nets(self):
        for net in NETS:
            self.assert_is(False, *[thing for way, thing in spoilt(net)])

    def test_a_part_less(self):
        self.assert_is(False, (2,), (((0, 1, 1, 1),),), (2, ((0, 1, 1),)), (2, ((0, 1, 1, 1), (0, 1, 1))), (2, ((),)))

    def test_how_many_places(self):
        self.assert_is(False, (0, ()), (-1, ()), (2, ()), (3, ()))
        star = ((0, 1, 1, 1), (0, 2, 1, 1), (0, 3, 1, 1))
        self.assert_is(True, (4, star))
        self.assert_is(False, (5, star), (3, star), (5, star + ((0, 4, 1, 1),)))

    def test_no_line_at_one_place(self):
        self.assert_is(False, (1, ((0, 0, 1, 1),)), (1, ((0, 1, 1, 1),)))

    def test_places_of_a_line(self):
        self.assert_is(False, (2, ((0, 2, 1, 1),)), (2, ((2, 0, 1, 1),)), (2, ((0, -1, 1, 1),)), (2, ((-1, 1, 1, 1),)))
        self.assert_is(False, (2, ((0, 1, 1, 1), (0, 2, 1, 1))), (2, ((0, 1, 1, 1), (-1, 0, 1, 1))))

    def test_two_like_places(self):
        self.assert_is(False, (2, ((0, 0, 1, 1),)), (2, ((0, 1, 1, 1), (1, 1, 1, 1))),
                       (2, ((0, 0, 1, 1), (0, 1, 1, 1))))

    def test_stiffness(self):
        self.assert_is(True, (2, ((0, 1, 1, 1),)), (2, ((0, 1, 9, 1),)))
        self.assert_is(False, (2, ((0, 1, 0, 1),)), (2, ((0, 1, 10, 1),)), (2, ((0, 1, -1, 1),)))

    def test_most(self):
        self.assert_is(True, (2, ((0, 1, 1, 0),)), (2, ((0, 1, 1, 99),)))
        self.assert_is(False, (2, ((0, 1, 1, -1),)), (2, ((0, 1, 1, 100),)), (2, ((0, 1, 1, LONG),)))

    def test_truths_for_whole_numbers(self):
        self.assert_is(False, (True, ()), (2, ((False, 1, 1, 1),)), (2, ((0, True, 1, 1),)), (2, ((0, 1, True, 1),)),
                       (2, ((0, 1, 1, False),)), (2, ((0, 1, 1, True),)))

    def test_each_line_is_looked_at(self):
        lines = NETS[-1][1]
        for number in range(6):
            for bad in ((0, 1, 1, 100), (0, 1, 0, 1), (0, 0, 1, 1), [0, 1, 1, 1], None):
                self.assert_is(False, (4, lines[:number] + (bad,) + lines[number + 1:]))

    def test_more_than_six_lines(self):
        self.assert_is(True, (2, ((0, 1, 1, 1),) * 6))
        self.assert_is(False, (2, ((0, 1, 1, 1),) * 7), (4, NETS[-1][1] + ((0, 1, 1, 1),)), (1, ((0, 0, 1, 1),) * 7))

    def test_places_that_do_not_hang_together(self):
        self.assert_is(False, (3, ((0, 1, 1, 1),)), (3, ((1, 2, 1, 1),)), (3, ((0, 1, 1, 1),) * 6),
                       (4, ((0, 1, 1, 1), (2, 3, 1, 1))), (4, ((0, 1, 1, 1), (1, 2, 1, 1), (2, 0, 1, 1))),
                       (4, ((1, 2, 1, 1), (2, 3, 1, 1), (3, 1, 1, 1))),
                       (4, ((0, 1, 1, 1), (2, 3, 1, 1), (1, 0, 1, 1), (3, 2, 1, 1), (0, 1, 2, 2), (2, 3, 3, 3))))

    def test_either_direction(self):
        self.assert_is(True, (3, ((1, 0, 1, 1), (1, 2, 1, 1))), (3, ((0, 1, 1, 1), (2, 1, 1, 1))),
                       (4, ((3, 2, 1, 1), (1, 2, 1, 1), (1, 0, 1, 1))))

    def test_drawn_lines(self):
        numbers = Numbers(17)
        seen = {True: 0, False: 0}
        for _ in range(600):
            many = numbers.within(2, 4)
            lines = tuple(numbers.line(many, range(100)) for _ in range(numbers.within(1, 6)))
            wanted = is_joined(many, lines)
            seen[wanted] += 1
            self.assertIs(is_net((many, lines)), wanted, (many, lines))
        self.assertGreater(min(seen.values()), 100)

    def test_drawn_nets(self):
        numbers = Numbers(19)
        for _ in range(300):
            net = numbers.any_net()
            self.assertIs(is_net(net), True, net)

    def test_large_things(self):
        self.assert_is(False, (2, ((0, 1, 1, 1),) * 2000), (LONG, ()), (2, tuple(range(9000))), tuple(range(9999)))

    def test_what_is_handed_in_stays_as_it_was(self):
        for thing in ([2, [[0, 1, 1, 1]]], (2, [(0, 1, 1, 1)]), (2, ([0, 1, 1, 1],)), [[], [None, ["a"]]]):
            assert_unchanged(self, is_net, thing)


class TestLosable(unittest.TestCase):
    def test_none_can_be_lost(self):
        for net in ((1, ()), (2, ((0, 1, 1, 1),)), CHAIN, (4, ((3, 0, 1, 1), (3, 1, 1, 1), (3, 2, 1, 1)))):
            self.assertEqual(losable(net), [])

    def test_all_can_be_lost(self):
        self.assertEqual(losable(TRIANGLE), [0, 1, 2])
        self.assertEqual(losable(TWINS), [0, 1])
        self.assertEqual(losable((2, ((0, 1, 1, 1),) * 6)), [0, 1, 2, 3, 4, 5])
        self.assertEqual(losable(NETS[-1]), [0, 1, 2, 3, 4, 5])

    def test_some_can_be_lost(self):
        self.assertEqual(losable(RING_AND_TAIL), [1, 2, 3])
        self.assertEqual(losable((3, ((0, 1, 1, 5), (2, 1, 9, 0), (0, 1, 1, 5)))), [0, 2])
        self.assertEqual(losable((3, ((2, 1, 9, 0), (0, 1, 1, 5), (1, 0, 1, 5)))), [1, 2])

    def test_the_most_of_a_line_does_not_matter(self):
        self.assertEqual(losable((2, ((0, 1, 4, 0), (1, 0, 5, 0)))), [0, 1])

    def test_drawn_nets(self):
        numbers = Numbers(23)
        for _ in range(300):
            net = numbers.any_net()
            found = losable(net)
            self.assertEqual(found, losable_lines(net), net)
            # As the point says it: the net without the line is a net.
            lines = net[1]
            self.assertEqual(found, [number for number in range(len(lines))
                                     if is_net((net[0], lines[:number] + lines[number + 1:]))])

    def test_told_lists_are_new_ones(self):
        for net in NETS:
            assert_own(self, losable, net)
            self.assertTrue(all(type(number) is int for number in losable(net)))


class TestWithout(unittest.TestCase):
    def assert_refused(self, error, net, *lines):
        for line in lines:
            with self.subTest(net=net, line=line):
                with self.assertRaises(MainsError) as caught:
                    without(net, line)
                self.assertIs(type(caught.exception), error)

    def test_the_lines_behind_have_lesser_numbers(self):
        first, second, third = TRIANGLE[1]
        self.assertEqual(without(TRIANGLE, 0), (3, (second, third)))
        self.assertEqual(without(TRIANGLE, 1), (3, (first, third)))
        self.assertEqual(without(TRIANGLE, 2), (3, (first, second)))
        self.assertEqual(without(RING_AND_TAIL, 1), (4, RING_AND_TAIL[1][:1] + RING_AND_TAIL[1][2:]))

    def test_lines_between_the_same_two(self):
        self.assertEqual(without(TWINS, 0), (2, ((1, 0, 5, 20),)))
        self.assertEqual(without(TWINS, 1), (2, ((0, 1, 4, 10),)))
        self.assertEqual(without((2, ((0, 1, 1, 1),) * 6), 3), (2, ((0, 1, 1, 1),) * 5))

    def test_drawn_nets(self):
        numbers = Numbers(29)
        for _ in range(200):
            net = numbers.any_net()
            can = losable_lines(net)
            for line in range(len(net[1])):
                if line in can:
                    found = without(net, line)
                    self.assertEqual(found, (net[0], net[1][:line] + net[1][line + 1:]))
                    self.assertIs(is_net(found), True)
                else:
                    self.assert_refused(NoLoss, net, line)

    def test_no_line(self):
        for net in NETS:
            many = len(net[1])
            self.assert_refused(NoLine, net, -1, many, many + 1, -many - 1, LONG, -LONG, True, False, None, "0", "",
                                [0], (0,), [], (), (0, 1), net, [None] * 10000)

    def test_no_loss(self):
        self.assert_refused(NoLoss, CHAIN, 0, 1, 2)
        self.assert_refused(NoLoss, RING_AND_TAIL, 0)
        self.assert_refused(NoLoss, (2, ((0, 1, 1, 1),)), 0)

    def test_no_line_goes_ahead_of_no_loss(self):
        # Taken for 0 and 1, the truths would tell lines that can't be lost.
        self.assert_refused(NoLine, CHAIN, True, False, -1, 3)

    def test_what_is_handed_in_stays_as_it_was(self):
        for line in (0, 5, [0], [[0], ["a"]]):
            assert_unchanged(self, without, TRIANGLE, line)

    def test_one_after_another(self):
        net = NETS[-1]
        for left in (5, 4, 3):
            net = without(net, losable(net)[0])
            self.assertEqual(len(net[1]), left)
        self.assertEqual(losable(net), [])


class TestHelpers(unittest.TestCase):
    """The helping sums of the tests do what they say."""

    def test_ways(self):
        thing = (1, ((2, True), None))
        for way in places_of(thing):
            self.assertEqual(put_at(thing, way, part_at(thing, way)), thing)
        self.assertEqual(put_at(thing, (1, 0, 1), 5), (1, ((2, 5), None)))


if __name__ == "__main__":
    unittest.main()
