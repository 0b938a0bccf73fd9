"""Plans: the makings of all hours' cases, and what it costs at least to come from a state to the end."""

from mainskeep.cases import base, blocks, cases
from mainskeep.fractions import is_less, plus
from mainskeep.making import cheapest
from mainskeep.states import first_state, going_cost
from mainskeep.ways import ways


def hour_makings(house, hour):
    """The cheapest making of each case of the hour."""
    return {case: cheapest(house[0], base(house, hour, case), blocks(house, hour, case)) for case in cases(house)}


def all_makings(house):
    """The cheapest makings of the cases, for each hour."""
    return [hour_makings(house, hour) for hour in range(len(house[3]))]


def reached(house):
    """The states to which rows of cases come, sorted, for each hour and one more."""
    layers = [[first_state(house)]]
    for hour in range(len(house[3])):
        last = layers[-1]
        layers.append(sorted({behind for state in last for case, behind in ways(house, hour, state)}))
    return layers


def least_way(house, hour, state, makings, worths):
    """The cheapest way from the state to the end: a tuple (cost, case, state behind it), or None.

    Makings are those of the hour's cases, worths those of the states behind the hour.
    """
    found = None
    for case, behind in ways(house, hour, state):
        if makings[case][0] == "made" and worths[behind] is not None:
            going = plus(makings[case][1], (going_cost(house, state, case), 1))
            cost = plus(going, worths[behind])
            if found is None or is_less(cost, found[0]):
                found = (cost, case, behind)
    return found


def state_worth(house, hour, state, makings, worths):
    """What the cheapest way from the state to the end costs, or None where there is none."""
    way = least_way(house, hour, state, makings, worths)
    return None if way is None else way[0]


def all_worths(house, makings):
    """For each hour and one more, a dict of what it costs at least to come from each state to the end."""
    layers = reached(house)
    tables = [{state: (0, 1) for state in layers[-1]}]
    for hour in range(len(house[3]) - 1, -1, -1):
        behind = tables[0]
        table = {state: state_worth(house, hour, state, makings[hour], behind) for state in layers[hour]}
        tables.insert(0, table)
    return tables
