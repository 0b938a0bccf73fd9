"""Runs: the cheapest way through all hours."""

from mainskeep.plans import all_makings, all_worths, least_way
from mainskeep.states import first_state


def cheapest_run(house):
    """A run than which none costs less, or None where there is none."""
    makings = all_makings(house)
    tables = all_worths(house, makings)
    state = first_state(house)
    cost = tables[0][state]
    if cost is None:
        return None
    hours = []
    for hour, made in enumerate(makings):
        way = least_way(house, hour, state, made, tables[hour + 1])
        case, state = way[1], way[2]
        hours.append((case, made[case][2], made[case][3]))
    return (cost, hours)
