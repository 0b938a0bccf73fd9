"""The shares by which limits hang on the places, each for a place and the place 0."""

from mainskeep.fractions import minus, over, plus, times
from mainskeep.streams import shares


def place_shares(net):
    """For each line, with none lost, a list of its shares for each place and the place 0."""
    by_place = [shares(net, place, 0) for place in range(net[0])]
    return [[row[line] for row in by_place] for line in range(len(net[1]))]


def part_taken_over(net, known, lost, line):
    """The part of the lost line's stream that the line bears besides its own."""
    one, other = net[1][lost][0], net[1][lost][1]
    share = minus(known[line][one], known[line][other])
    own = minus(known[lost][one], known[lost][other])
    return over(share, minus((1, 1), own))


def limit_shares(net, known, lost, line):
    """The line's shares for each place and the place 0 with that line lost, or none (-1).

    Known are the place shares of the net: so no net without a line is solved for it.
    """
    if lost == -1:
        return list(known[line])
    part = part_taken_over(net, known, lost, line)
    return [plus(share, times(part, gone)) for share, gone in zip(known[line], known[lost])]
