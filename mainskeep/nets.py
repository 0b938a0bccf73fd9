"""Nets: places joined by lines, and which lines can be lost."""

from mainskeep.errors import NoLine, NoLoss
from mainskeep.kinds import is_row, is_within


def is_line(thing, many):
    """Whether any thing is a line between two of so many places."""
    if not is_row(thing, 4, 4):
        return False
    one, other, stiffness, most = thing
    if not is_within(one, 0, many - 1) or not is_within(other, 0, many - 1) or one == other:
        return False
    return is_within(stiffness, 1, 9) and is_within(most, 0, 99)


def are_joined(many, lines):
    """Whether from each of so many places one comes along lines to each other one."""
    groups = list(range(many))
    for one, other, stiffness, most in lines:
        kept, gone = groups[one], groups[other]
        groups = [kept if group == gone else group for group in groups]
    return len(set(groups)) == 1


def is_net(thing):
    """Whether any thing is a net."""
    if not is_row(thing, 2, 2):
        return False
    many, lines = thing
    if not is_within(many, 1, 4) or not is_row(lines, 0, 6):
        return False
    return all([is_line(line, many) for line in lines]) and are_joined(many, lines)


def lines_but(net, line):
    """The lines of the net but the one of that number."""
    return net[1][:line] + net[1][line + 1:]


def can_be_lost(net, line):
    """Whether the line of that number can be lost."""
    # All else that makes a net stays as it was when a line goes.
    return are_joined(net[0], lines_but(net, line))


def losable(net):
    """The numbers of the lines that can be lost, rising."""
    return [line for line in range(len(net[1])) if can_be_lost(net, line)]


def without(net, line):
    """The net without the line of that number."""
    if not is_within(line, 0, len(net[1]) - 1):
        raise NoLine("no line has that number")
    if not can_be_lost(net, line):
        raise NoLoss("without that line the places don't hang together")
    return (net[0], lines_but(net, line))
