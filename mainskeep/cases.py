"""Cases of an hour: which works are on and how the store is moved; and rows of cases, hour by hour."""

from mainskeep.states import first_level, first_state, led_to, starts

FIRM = 100


def cases(house):
    """All cases of an hour, in their order."""
    rows = [()]
    for work in house[1]:
        rows = [row + (truth,) for row in rows for truth in (False, True)]
    moves = (0,) if house[2] is None else (-1, 0, 1)
    return [(row, move) for row in rows for move in moves]


def is_firm(want):
    """Whether nothing of the want can be left out."""
    return want[2] >= FIRM


def base(house, hour, case):
    """What is put in at each place in the hour's case, whatever is made."""
    net, works, store, hours = house
    on, move = case
    found = [0 for place in range(net[0])]
    for work, is_on in zip(works, on):
        if is_on:
            found[work[0]] += work[1]
    for place, size, worth in hours[hour]:
        found[place] -= size
    if move == 1:
        found[store[0]] -= store[3]
    if move == -1:
        found[store[0]] += store[4]
    return found


def blocks(house, hour, case):
    """The blocks of the hour's case: pieces of the works that are on, then what of the wants can be left out."""
    pieces = []
    for work, is_on in zip(house[1], case[0]):
        if is_on:
            pieces.extend([(work[0], width, price) for width, price in work[3]])
    left_out = [(want[0], want[1], want[2]) for want in house[3][hour] if not is_firm(want)]
    return tuple(pieces + left_out)


def last_state(house, row):
    """The state behind a row of cases, or None where the row can't be gone."""
    if len(row) > len(house[3]):
        return None
    state = first_state(house)
    for case in row:
        state = led_to(house, state, case)
        if state is None:
            return None
    return state


def can_be_gone(house, row):
    """Whether a row of cases can be gone."""
    return last_state(house, row) is not None


def is_whole(house, row):
    """Whether a row of cases can be gone and is whole."""
    state = last_state(house, row)
    if state is None or len(row) != len(house[3]):
        return False
    return state[2] >= first_level(house)


def turning(house, row):
    """What the turning of a row of cases costs."""
    on = first_state(house)[0]
    cost = 0
    for after, move in row:
        cost += starts(house, on, after)
        on = after
    return cost
