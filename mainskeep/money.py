"""Money: what is paid and got in the hours of a run, what works are owed, and a run behind other wants."""

from mainskeep.cases import base, blocks, is_firm
from mainskeep.errors import NoMaking
from mainskeep.fractions import is_less, minus, plus, summed, times
from mainskeep.making import cheapest, prices
from mainskeep.states import first_state


def amounts_by_work(house, case, amounts):
    """For each work the amounts of its pieces, none where it is off."""
    found = []
    at = 0
    for work, is_on in zip(house[1], case[0]):
        many = len(work[3]) if is_on else 0
        found.append(amounts[at:at + many])
        at += many
    return found


def left_out(house, hour, amounts):
    """What is left out of each of the hour's wants."""
    wants = house[3][hour]
    # The blocks of the wants that aren't firm are the last ones.
    at = len(amounts) - len([want for want in wants if not is_firm(want)])
    found = []
    for want in wants:
        if is_firm(want):
            found.append((0, 1))
        else:
            found.append(amounts[at])
            at += 1
    return found


def paid_by_wants(house, hour, amounts, by_place):
    """What each of the hour's wants pays at the prices."""
    found = []
    for want, left in zip(house[3][hour], left_out(house, hour, amounts)):
        found.append(times(by_place[want[0]], minus((want[1], 1), left)))
    return found


def got_by_works(house, case, amounts, by_place):
    """What each work gets at the prices."""
    found = []
    for work, is_on, parts in zip(house[1], case[0], amounts_by_work(house, case, amounts)):
        made = plus((work[1], 1), summed(parts)) if is_on else (0, 1)
        found.append(times(by_place[work[0]], made))
    return found


def got_by_store(house, move, by_place):
    """What the store gets at the prices, below 0 what it pays."""
    if move == 0:
        return (0, 1)
    place, top, level, taken, given = house[2]
    return times(by_place[place], (-taken if move == 1 else given, 1))


def rents(net, weights):
    """The rent of each line."""
    found = [(0, 1) for line in net[1]]
    for lost, line, side, weight in weights[1]:
        found[line] = plus(found[line], times(weight, (net[1][line][3], 1)))
    return found


def paid(house, hour, entry):
    """What wants pay, works get, the store gets and lines bear in rent, in an hour of a run."""
    case, amounts, weights = entry
    by_place = prices(house[0], weights)
    wants = paid_by_wants(house, hour, amounts, by_place)
    works = got_by_works(house, case, amounts, by_place)
    return (wants, works, got_by_store(house, case[1], by_place), rents(house[0], weights))


def spent(work, parts):
    """What an hour costs a work that is on: its keep and its pieces."""
    costs = [times(part, (piece[1], 1)) for part, piece in zip(parts, work[3])]
    return plus((work[2], 1), summed(costs))


def gains(house, run):
    """What each work gains in a run."""
    found = [(0, 1) for work in house[1]]
    ahead = first_state(house)[0]
    for hour, entry in enumerate(run[1]):
        case, amounts, weights = entry
        got = paid(house, hour, entry)[1]
        made = amounts_by_work(house, case, amounts)
        for number, work in enumerate(house[1]):
            if case[0][number]:
                start = 0 if ahead[number] else work[4]
                gain = minus(minus(got[number], spent(work, made[number])), (start, 1))
                found[number] = plus(found[number], gain)
        ahead = case[0]
    return found


def owed(house, run):
    """What each work is owed in a run."""
    return [minus((0, 1), gain) if is_less(gain, (0, 1)) else (0, 1) for gain in gains(house, run)]


def put_in(house, hour, case, amounts):
    """What is put in at each place, by the base and the amounts."""
    found = [(part, 1) for part in base(house, hour, case)]
    for block, amount in zip(blocks(house, hour, case), amounts):
        found[block[0]] = plus(found[block[0]], amount)
    return found


def settled_hour(house, other, hour, entry):
    """An hour of a run, behind the wants of the other house."""
    case, amounts, weights = entry
    found = cheapest(other[0], base(other, hour, case), blocks(other, hour, case))
    if found[0] == "none":
        raise NoMaking(hour)
    first = put_in(house, hour, case, amounts)
    second = put_in(other, hour, case, found[2])
    by_place = prices(other[0], found[3])
    turns = [times(price, minus(now, ahead)) for price, now, ahead in zip(by_place, second, first)]
    return (found[2], found[3], turns)


def settled(house, run, hours):
    """A run behind other wants, for each hour a tuple (amounts, weights, turns)."""
    other = (house[0], house[1], house[2], hours)
    return [settled_hour(house, other, hour, entry) for hour, entry in enumerate(run[1])]
