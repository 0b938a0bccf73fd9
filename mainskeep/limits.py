"""Limits: what each line may bear at most, whichever other line is lost."""

from mainskeep.fractions import is_less, minus, times
from mainskeep.nets import losable
from mainskeep.streams import behind_loss, streams


def limits_with(net, lost):
    """The limits of the lines that are left when that line is lost, or none (-1)."""
    return [(lost, line, side) for line in range(len(net[1])) if line != lost for side in (-1, 1)]


def limits(net):
    """All limits, sorted."""
    found = []
    for lost in [-1] + losable(net):
        found.extend(limits_with(net, lost))
    return found


def streams_with(net, puts, lost):
    """What runs along each line when that line is lost, or none (-1)."""
    return streams(net, puts) if lost == -1 else behind_loss(net, puts, lost)


def broken(net, puts):
    """The limits that puts break, sorted, each with how far the stream goes beyond the most."""
    running = {lost: streams_with(net, puts, lost) for lost in [-1] + losable(net)}
    found = []
    for lost, line, side in limits(net):
        beyond = minus(times((side, 1), running[lost][line]), (net[1][line][3], 1))
        if is_less((0, 1), beyond):
            found.append((lost, line, side, beyond))
    return found


def keeps(net, puts):
    """Whether puts keep all limits."""
    return broken(net, puts) == []
