"""Walls: limits as rows of whole numbers."""

from mainskeep.fractions import common_divisor
from mainskeep.limits import limits
from mainskeep.shares import limit_shares, place_shares


def common_bottom(parts):
    """The least whole number above 0 that makes whole numbers of all the fractions, multiplied by it."""
    bottom = 1
    for part in parts:
        bottom = bottom // common_divisor(bottom, part[1]) * part[1]
    return bottom


def wall(limit, most, parts):
    """The wall of a limit: a tuple (limit, unit, top, slopes), for the line's shares with that line lost.

    The top, less each slope times what is put in at its place, is `unit` times what the limit leaves.
    """
    unit = common_bottom(parts)
    slopes = tuple([limit[2] * part[0] * (unit // part[1]) for part in parts])
    return (limit, unit, unit * most, slopes)


def walls(net):
    """The walls of all limits, in their order."""
    known = place_shares(net)
    found = []
    for limit in limits(net):
        parts = limit_shares(net, known, limit[0], limit[1])
        found.append(wall(limit, net[1][limit[1]][3], parts))
    return found
