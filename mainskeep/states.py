"""States: how the works and the store stand ahead of an hour, and what each case makes of it."""


def store_top(house):
    """The most that the store can hold, 0 without a store."""
    return 0 if house[2] is None else house[2][1]


def first_level(house):
    """What the store holds ahead of the first hour, 0 without a store."""
    return 0 if house[2] is None else house[2][2]


def first_state(house):
    """The state ahead of the first hour."""
    on = tuple([work[7] for work in house[1]])
    # Ahead of the first hour each work has been as it was for long enough.
    ages = tuple([2 for work in house[1]])
    return (on, ages, first_level(house))


def may_turn(work, was_on, age):
    """Whether a work that was on, or off, and has that age, can be turned."""
    stay, rest = work[5], work[6]
    return age >= (stay if was_on else rest)


def led_to(house, state, case):
    """The state to which the case leads from the state, or None where it can't be gone from there."""
    on, ages, level = state
    after, move = case
    if not 0 <= level + move <= store_top(house):
        return None
    new_ages = []
    for work, old, new, age in zip(house[1], on, after, ages):
        if old != new and not may_turn(work, old, age):
            return None
        new_ages.append(1 if old != new else 2)
    return (after, tuple(new_ages), level + move)


def starts(house, on, after):
    """What it costs to turn on the works that were off and are on after."""
    return sum([work[4] for work, old, new in zip(house[1], on, after) if new and not old])


def going_cost(house, state, case):
    """What the case costs from the state besides its making: the keeps and the starts."""
    keeps = sum([work[2] for work, new in zip(house[1], case[0]) if new])
    return keeps + starts(house, state[0], case[0])
