"""Ways: the cases that can be gone from a state, and where they lead."""

from mainskeep.cases import cases
from mainskeep.states import first_level, led_to


def ways(house, hour, state):
    """The cases that can be gone from the state in the hour, in their order, each with the state behind it.

    In the last hour only those behind which the store holds no less than ahead of the first hour: no other one
    ends a whole row.
    """
    is_last = hour == len(house[3]) - 1
    found = []
    for case in cases(house):
        behind = led_to(house, state, case)
        if behind is not None and (not is_last or behind[2] >= first_level(house)):
            found.append((case, behind))
    return found
