"""The looker: whether any thing is a paper of a house, by prices, lines and sums alone."""

from mainskeep.cases import base, blocks
from mainskeep.errors import NoPaper
from mainskeep.fractions import is_fraction, is_less, plus
from mainskeep.kinds import is_row, is_whole_number, is_within
from mainskeep.limits import limits
from mainskeep.making import shown, shown_at_nought
from mainskeep.states import first_state, going_cost, store_top
from mainskeep.ways import ways


def are_truths(thing, many):
    """Whether any thing is a tuple of so many truths."""
    return is_row(thing, many, many) and all([isinstance(part, bool) for part in thing])


def is_case(house, thing):
    """Whether any thing is a case of the house's hours."""
    if not is_row(thing, 2, 2) or not are_truths(thing[0], len(house[1])):
        return False
    return is_within(thing[1], 0, 0) if house[2] is None else is_within(thing[1], -1, 1)


def is_state(house, thing):
    """Whether any thing is a state of the house."""
    if not is_row(thing, 3, 3):
        return False
    on, ages, level = thing
    many = len(house[1])
    if not are_truths(on, many) or not is_row(ages, many, many):
        return False
    return all([is_within(age, 1, 2) for age in ages]) and is_within(level, 0, store_top(house))


def rise(parts):
    """Whether each part of a list stands, in Python's order, behind the one ahead of it, none twice."""
    return all([ahead < behind for ahead, behind in zip(parts, parts[1:])])


def is_weight_row(known, thing):
    """Whether any thing is one of the known limits with a fraction above 0."""
    if not is_row(thing, 4, 4) or not all([is_whole_number(part) for part in thing[:3]]):
        return False
    return thing[:3] in known and is_fraction(thing[3]) and thing[3][0] > 0


def are_weights(known, thing):
    """Whether any thing is weights, with rows of the known limits."""
    if not is_row(thing, 2, 2) or not is_fraction(thing[0]) or not is_row(thing[1], 0, 12):
        return False
    return all([is_weight_row(known, row) for row in thing[1]]) and rise([row[:3] for row in thing[1]])


def are_hour_bounds(house, known, thing):
    """Whether any thing is the bounds of an hour."""
    if not isinstance(thing, tuple):
        return False
    for pair in thing:
        if not is_row(pair, 2, 2) or not is_case(house, pair[0]) or not are_weights(known, pair[1]):
            return False
    return rise([pair[0] for pair in thing])


def are_bounds(house, thing):
    """Whether any thing is bounds."""
    many = len(house[3])
    known = {limit: True for limit in limits(house[0])}
    return is_row(thing, many, many) and all([are_hour_bounds(house, known, part) for part in thing])


def is_table(house, thing):
    """Whether any thing is a table of states and their worths, in its form."""
    if not isinstance(thing, tuple):
        return False
    for pair in thing:
        if not is_row(pair, 2, 2) or not is_state(house, pair[0]):
            return False
        if pair[1] is not None and not is_fraction(pair[1]):
            return False
    return rise([pair[0] for pair in thing])


def case_bound(house, hour, case, weights):
    """What the hour's case costs at least besides its keeps, by the weights; None where it can't be."""
    part, made = base(house, hour, case), blocks(house, hour, case)
    if is_less((0, 1), shown_at_nought(house[0], part, made, weights)):
        return None
    return shown(house[0], part, made, weights)


def is_way_borne(house, entry, way, bounds, worths):
    """Whether a way from an entry of an hour's table bears the entry's worth.

    Bounds are those of the hour's cases, worths those of the next table's states.
    """
    state, worth = entry
    case, behind = way
    if case not in bounds:
        return False
    if bounds[case] is None:
        return True
    if behind not in worths:
        return False
    if worths[behind] is None:
        return True
    if worth is None:
        return False
    going = plus(bounds[case], (going_cost(house, state, case), 1))
    return not is_less(plus(going, worths[behind]), worth)


def is_hour_borne(house, hour, pairs, table, behind):
    """Whether all worths of an hour's table are borne, by the hour's bounds and the table behind it."""
    bounds = {case: case_bound(house, hour, case, weights) for case, weights in pairs}
    worths = {state: worth for state, worth in behind}
    for entry in table:
        for way in ways(house, hour, entry[0]):
            if not is_way_borne(house, entry, way, bounds, worths):
                return False
    return True


def are_tables(house, number, bounds, thing):
    """Whether any thing is tables, for that number and those bounds."""
    many = len(house[3])
    if not is_row(thing, many + 1, many + 1) or not all([is_table(house, table) for table in thing]):
        return False
    if thing[0] != ((first_state(house), number),) or not all([pair[1] == (0, 1) for pair in thing[-1]]):
        return False
    return all([is_hour_borne(house, hour, bounds[hour], thing[hour], thing[hour + 1]) for hour in range(many)])


def look(house, thing):
    """Refuses any thing that is no paper of the house."""
    if not is_row(thing, 4, 4) or thing[0] != "least":
        raise NoPaper(0)
    word, number, bounds, tables = thing
    if number is not None and not is_fraction(number):
        raise NoPaper(1)
    if not are_bounds(house, bounds):
        raise NoPaper(2)
    if not are_tables(house, number, bounds, tables):
        raise NoPaper(3)
