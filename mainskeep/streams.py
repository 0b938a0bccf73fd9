"""What runs along the lines of a net, for what is put in at its places."""

from mainskeep.errors import NoBalance, NoPuts
from mainskeep.fractions import fraction, is_fraction, minus, plus, times
from mainskeep.nets import without
from mainskeep.tables import solved


def check_puts(net, puts):
    """Refuses what are no puts of the net, and puts that don't balance."""
    if not isinstance(puts, list) or len(puts) != net[0]:
        raise NoPuts("puts are a list of one fraction for each place")
    total = (0, 1)
    for put in puts:
        if not is_fraction(put):
            raise NoPuts("each put is a fraction")
        total = plus(total, put)
    if total != (0, 1):
        raise NoBalance("what is put in isn't what is taken out")


def stiffness_table(net):
    """For each place what is put in there for one unit of each place's height."""
    rows = [[0 for place in range(net[0])] for place in range(net[0])]
    for one, other, stiffness, most in net[1]:
        rows[one][one] += stiffness
        rows[other][other] += stiffness
        rows[one][other] -= stiffness
        rows[other][one] -= stiffness
    return rows


def heights(net, puts):
    """The heights of puts that balance."""
    check_puts(net, puts)
    # The place 0 has the height 0, and where all other places get their puts, so does it, since puts balance.
    table = [[fraction(part, 1) for part in row[1:]] for row in stiffness_table(net)[1:]]
    return [(0, 1)] + solved(table, puts[1:])


def streams(net, puts):
    """What runs along each line."""
    found = heights(net, puts)
    return [times((stiffness, 1), minus(found[one], found[other])) for one, other, stiffness, most in net[1]]


def shares(net, one, other):
    """The share of each line for two places."""
    puts = [(0, 1) for place in range(net[0])]
    # Put in and taken out one behind the other, so that both come to 0 where the two are one place.
    puts[one] = plus(puts[one], (1, 1))
    puts[other] = minus(puts[other], (1, 1))
    return streams(net, puts)


def behind_loss(net, puts, line):
    """What runs along each line when the one of that number is lost."""
    check_puts(net, puts)
    found = streams(without(net, line), puts)
    found.insert(line, (0, 1))
    return found
