"""Points 2, 3, 8, 9 and 10: heights, streams, shares, and what runs when a line is lost."""

import unittest

from drawn import (LONG, OTHER_THINGS, Numbers, assert_own, assert_unchanged, losable_lines, ratio, running,
                   running_without, worth)
from mainskeep.errors import MainsError, NoBalance, NoLine, NoLoss, NoPuts
from mainskeep.fractions import is_fraction
from mainskeep.nets import losable, without
from mainskeep.streams import behind_loss, heights, shares, streams

ALONE = (1, ())
PAIR = (2, ((1, 0, 4, 3),))
TWINS = (2, ((0, 1, 4, 10), (1, 0, 6, 20)))
TRIANGLE = (3, ((0, 1, 1, 5), (1, 2, 1, 6), (0, 2, 1, 7)))
CHAIN = (4, ((0, 1, 1, 5), (2, 1, 2, 6), (2, 3, 3, 7)))
RING_AND_TAIL = (4, ((3, 2, 1, 8), (0, 1, 1, 5), (1, 2, 2, 6), (2, 0, 3, 7)))
FULL = (4, ((0, 1, 1, 1), (0, 2, 2, 2), (0, 3, 3, 3), (1, 2, 4, 4), (1, 3, 5, 5), (2, 3, 6, 6)))
NETS = (ALONE, PAIR, TWINS, TRIANGLE, CHAIN, RING_AND_TAIL, FULL)


def whole(*numbers):
    return [(number, 1) for number in numbers]


def noughts(net):
    return whole(*[0] * net[0])


def bad_puts(many):
    """What are no puts for so many places."""
    good = whole(*[0] * many)
    yield from OTHER_THINGS
    yield from ([], good + [(0, 1)], good[1:], tuple(good), [good], str(good), good * 2)
    for at in range(many):
        for part in (0, 1, None, True, False, "0", "0/1", [0, 1], (0, 2), (2, 2), (0, 0), (1, 0), (0, -1), (1, -1),
                     (0,), (0, 1, 1), (False, 1), (0, True), (None, 1), ((0, 1), 1), ()):
            yield good[:at] + [part] + good[at + 1:]


class StreamTest(unittest.TestCase):
    def assert_refused(self, error, asked, *arguments):
        with self.assertRaises(MainsError, msg=arguments) as caught:
            asked(*arguments)
        self.assertIs(type(caught.exception), error, arguments)

    def assert_fractions(self, found, many):
        self.assertIs(type(found), list)
        self.assertEqual(len(found), many)
        for part in found:
            self.assertIs(is_fraction(part), True)

    def assert_gives_puts(self, net, found, puts):
        """The streams give each place its put."""
        for place in range(net[0]):
            out = sum(worth(stream) for stream, line in zip(found, net[1]) if line[0] == place)
            back = sum(worth(stream) for stream, line in zip(found, net[1]) if line[1] == place)
            self.assertEqual(out - back, worth(puts[place]), (net, puts))

    def assert_all_of_point_8(self, net, puts):
        high, found = heights(net, puts), streams(net, puts)
        self.assert_fractions(high, net[0])
        self.assert_fractions(found, len(net[1]))
        self.assertEqual(high[0], (0, 1))
        for stream, (one, other, stiffness, most) in zip(found, net[1]):
            self.assertEqual(worth(stream), stiffness * (worth(high[one]) - worth(high[other])), (net, puts))
        self.assert_gives_puts(net, found, puts)


class TestHeightsAndStreams(StreamTest):
    def test_one_place(self):
        self.assertEqual(heights(ALONE, [(0, 1)]), [(0, 1)])
        self.assertEqual(streams(ALONE, [(0, 1)]), [])

    def test_two_places(self):
        self.assertEqual(heights(PAIR, whole(6, -6)), [(0, 1), (-3, 2)])
        self.assertEqual(streams(PAIR, whole(6, -6)), [(-6, 1)])
        self.assertEqual(streams(PAIR, whole(-6, 6)), [(6, 1)])

    def test_lines_between_the_same_two(self):
        self.assertEqual(heights(TWINS, whole(5, -5)), [(0, 1), (-1, 2)])
        self.assertEqual(streams(TWINS, whole(5, -5)), whole(2, -3))

    def test_three_places(self):
        self.assertEqual(streams(TRIANGLE, whole(3, 0, -3)), whole(1, 1, 2))
        self.assertEqual(heights(TRIANGLE, whole(3, 0, -3)), whole(0, -1, -2))
        self.assertEqual(streams(TRIANGLE, whole(0, 1, -1)), [(-1, 3), (2, 3), (1, 3)])

    def test_a_chain(self):
        self.assertEqual(streams(CHAIN, whole(1, 2, 3, -6)), whole(1, -3, 6))
        self.assertEqual(heights(CHAIN, whole(1, 2, 3, -6)), [(0, 1), (-1, 1), (-5, 2), (-9, 2)])

    def test_nothing_put_in(self):
        for net in NETS:
            self.assertEqual(heights(net, noughts(net)), noughts(net))
            self.assertEqual(streams(net, noughts(net)), whole(*[0] * len(net[1])))

    def test_the_most_of_a_line_does_not_matter(self):
        self.assertEqual(streams((2, ((0, 1, 1, 0),)), whole(50, -50)), whole(50))

    def test_puts_that_are_fractions(self):
        self.assertEqual(streams(TWINS, [(1, 3), (-1, 3)]), [(2, 15), (-1, 5)])
        self.assert_all_of_point_8(FULL, [(1, 2), (1, 3), (1, 6), (-1, 1)])

    def test_drawn_nets(self):
        numbers = Numbers(31)
        for _ in range(300):
            net = numbers.any_net()
            puts = numbers.puts(net[0], 50)
            self.assert_all_of_point_8(net, puts)
            wanted = running(net, [worth(put) for put in puts])
            self.assertEqual([worth(stream) for stream in streams(net, puts)], wanted)

    def test_large_fractions(self):
        numbers = Numbers(37)
        for net in NETS + tuple(numbers.any_net() for _ in range(10)):
            self.assert_all_of_point_8(net, numbers.puts(net[0], LONG))
        self.assertEqual(streams(PAIR, [(LONG, 1), (-LONG, 1)]), [(-LONG, 1)])
        self.assertEqual(streams(PAIR, [(1, LONG), (-1, LONG)]), [(-1, LONG)])

    def test_what_was_told_is_handed_in_again(self):
        numbers = Numbers(41)
        puts = numbers.puts(3, LONG)
        for _ in range(3):
            self.assert_all_of_point_8(TRIANGLE, puts)
            one, other, third = [worth(stream) for stream in streams(TRIANGLE, puts)]
            puts = [ratio(one), ratio(other), ratio(-one - other)]


class TestRefusedPuts(StreamTest):
    ASKED = (heights, streams, lambda net, puts: behind_loss(net, puts, 0))

    def test_no_puts(self):
        for net in NETS:
            for puts in bad_puts(net[0]):
                for asked in self.ASKED:
                    if puts != noughts(net):
                        self.assert_refused(NoPuts, asked, net, puts)

    def test_no_balance(self):
        for net in NETS:
            for at in range(net[0]):
                for part in ((1, 1), (-1, 1), (1, LONG), (-LONG, 1)):
                    puts = noughts(net)
                    puts[at] = part
                    for asked in self.ASKED:
                        self.assert_refused(NoBalance, asked, net, puts)
        self.assert_refused(NoBalance, streams, TRIANGLE, [(1, 3), (1, 3), (-1, 3)])
        self.assert_refused(NoBalance, streams, TWINS, [(LONG, 1), (1 - LONG, 1)])

    def test_no_puts_goes_ahead_of_no_balance(self):
        for asked in self.ASKED:
            self.assert_refused(NoPuts, asked, TRIANGLE, [(1, 1), (5, 1), None])
            self.assert_refused(NoPuts, asked, TRIANGLE, [(1, 1), (5, 1)])
            self.assert_refused(NoPuts, asked, TRIANGLE, [(2, 2), (5, 1), (0, 1)])
            self.assert_refused(NoPuts, asked, TRIANGLE, ((1, 1), (5, 1), (0, 1)))


class TestShares(StreamTest):
    def test_ordinary(self):
        self.assertEqual(shares(TRIANGLE, 0, 2), [(1, 3), (1, 3), (2, 3)])
        self.assertEqual(shares(TRIANGLE, 2, 0), [(-1, 3), (-1, 3), (-2, 3)])
        self.assertEqual(shares(TWINS, 0, 1), [(2, 5), (-3, 5)])
        self.assertEqual(shares(CHAIN, 3, 0), whole(-1, 1, -1))
        self.assertEqual(shares(PAIR, 0, 1), whole(-1))

    def test_one_place_twice(self):
        for net in NETS:
            for place in range(net[0]):
                self.assertEqual(shares(net, place, place), whole(*[0] * len(net[1])))

    def test_each_two_places(self):
        numbers = Numbers(43)
        for net in NETS + tuple(numbers.any_net() for _ in range(60)):
            for one in range(net[0]):
                for other in range(net[0]):
                    found = shares(net, one, other)
                    self.assert_fractions(found, len(net[1]))
                    puts = [(place == one) - (place == other) for place in range(net[0])]
                    self.assertEqual(found, streams(net, whole(*puts)))
                    self.assertEqual([worth(share) for share in found], running(net, puts))


class TestBehindLoss(StreamTest):
    def test_ordinary(self):
        self.assertEqual(behind_loss(TRIANGLE, whole(3, 0, -3), 0), whole(0, 0, 3))
        self.assertEqual(behind_loss(TRIANGLE, whole(3, 0, -3), 1), whole(0, 0, 3))
        self.assertEqual(behind_loss(TRIANGLE, whole(3, 0, -3), 2), whole(3, 3, 0))
        self.assertEqual(behind_loss(TWINS, whole(5, -5), 0), whole(0, -5))
        self.assertEqual(behind_loss(TWINS, whole(5, -5), 1), whole(5, 0))

    def test_the_net_without_the_line(self):
        numbers = Numbers(47)
        for net in NETS + tuple(numbers.any_net() for _ in range(100)):
            puts = numbers.puts(net[0], 60)
            for lost in losable(net):
                found = behind_loss(net, puts, lost)
                self.assert_fractions(found, len(net[1]))
                self.assertEqual(found[lost], (0, 1))
                self.assertEqual(found[:lost] + found[lost + 1:], streams(without(net, lost), puts))
                wanted = running_without(net, [worth(put) for put in puts], lost)
                self.assertEqual([worth(stream) for stream in found], wanted)

    def test_the_sentence_with_the_shares(self):
        numbers = Numbers(53)
        seen = 0
        for net in NETS + tuple(numbers.any_net() for _ in range(100)):
            puts = numbers.puts(net[0], 60)
            ahead = [worth(stream) for stream in streams(net, puts)]
            for lost in losable_lines(net):
                own = [worth(share) for share in shares(net, net[1][lost][0], net[1][lost][1])]
                for line, stream in enumerate(behind_loss(net, puts, lost)):
                    if line != lost:
                        seen += 1
                        self.assertEqual(worth(stream), ahead[line] + ahead[lost] * own[line] / (1 - own[lost]))
        self.assertGreater(seen, 500)

    def test_large_fractions(self):
        numbers = Numbers(59)
        for net in (TWINS, TRIANGLE, RING_AND_TAIL, FULL):
            puts = numbers.puts(net[0], LONG)
            for lost in losable(net):
                found = behind_loss(net, puts, lost)
                self.assert_gives_puts(net, found, puts)
                self.assertEqual(found[:lost] + found[lost + 1:], streams(without(net, lost), puts))

    def test_no_line(self):
        for net in NETS:
            many = len(net[1])
            for line in (-1, many, many + 1, LONG, -LONG, True, False, None, "0", [0], (0,), [], ()):
                self.assert_refused(NoLine, behind_loss, net, noughts(net), line)

    def test_no_loss(self):
        for net in NETS:
            for line in range(len(net[1])):
                if line not in losable_lines(net):
                    self.assert_refused(NoLoss, behind_loss, net, noughts(net), line)
        self.assert_refused(NoLoss, behind_loss, RING_AND_TAIL, whole(1, 2, 3, -6), 0)

    def test_which_refusal_goes_first(self):
        wrong, uneven, even = [(0, 2)] * 4, whole(1, 0, 0, 0), whole(0, 0, 0, 0)
        for line in (0, 1, -1, 4, None, True):
            self.assert_refused(NoPuts, behind_loss, RING_AND_TAIL, wrong, line)
            self.assert_refused(NoBalance, behind_loss, RING_AND_TAIL, uneven, line)
        for line in (True, False, -1, 3):
            self.assert_refused(NoLine, behind_loss, CHAIN, even, line)


class TestNothingIsKept(StreamTest):
    def test_what_is_handed_in_stays_as_it_was(self):
        for puts in (whole(3, 0, -3), whole(1, 0, 0), [(0, 1), [0, 1], (0, 1)], [[], [None]], [(0, 1), None]):
            assert_unchanged(self, heights, TRIANGLE, puts)
            assert_unchanged(self, streams, TRIANGLE, puts)
            for line in (0, 1, 2, 3, [0, ["a"]]):
                assert_unchanged(self, behind_loss, TRIANGLE, puts, line)

    def test_told_lists_are_new_ones(self):
        for net in NETS:
            puts = Numbers(61).puts(net[0], 9)
            assert_own(self, heights, net, puts)
            assert_own(self, streams, net, puts)
            assert_own(self, shares, net, 0, net[0] - 1)
            for line in losable(net):
                assert_own(self, behind_loss, net, puts, line)

    def test_later_changes_of_puts_change_no_answer(self):
        puts = whole(3, 0, -3)
        high, found, behind = heights(TRIANGLE, puts), streams(TRIANGLE, puts), behind_loss(TRIANGLE, puts, 2)
        puts[0] = (9, 1)
        puts.append(None)
        self.assertEqual((high, found, behind), (whole(0, -1, -2), whole(1, 1, 2), whole(3, 3, 0)))
        self.assertEqual(streams(TRIANGLE, whole(3, 0, -3)), whole(1, 1, 2))

    def test_an_answer_goes_by_the_puts_as_they_are_now(self):
        puts = whole(3, 0, -3)
        streams(TRIANGLE, puts)
        puts[0], puts[2] = (6, 1), (-6, 1)
        self.assertEqual(streams(TRIANGLE, puts), whole(2, 2, 4))


if __name__ == "__main__":
    unittest.main()
