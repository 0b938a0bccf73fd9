"""Houses: drawn ones, some written out, and points 19 to 23 written out again without the program's cases, states
and lookers."""

import itertools
import math

from drawn import all_limits, worth
from reckoned import MakingTest, Reckoner

ALONE = (1, ())
PAIR = (2, ((0, 1, 1, 10),))
TIGHT = (4, ((0, 1, 1, 4), (0, 2, 2, 6), (0, 3, 3, 7), (1, 2, 4, 8), (1, 3, 5, 9), (2, 3, 6, 7)))

# One work and no store; the want can't be left out.
LAMP = (ALONE, ((0, 2, 3, ((10, 4),), 7, 1, 1, False),), None, (((0, 5, 100),), ((0, 1, 50),)))
# A line that binds, two works, a store.
MILL = (PAIR, ((0, 0, 2, ((15, 3), (20, 8)), 5, 2, 1, True), (1, 1, 6, ((12, 20),), 9, 1, 2, False)), (1, 1, 0, 4, 3),
        (((1, 8, 100),), ((1, 14, 90), (0, 2, 30)), ((1, 16, 100), (0, 0, 40))))
# Nothing makes what is wanted.
DARK = (PAIR, (), (0, 2, 1, 3, 2), (((1, 5, 60),), ((1, 5, 100),)))
# The largest one: six lines, three works of two pieces, a store, three wants in each of three hours.
LARGE = (TIGHT, ((0, 4, 9, ((12, 3), (20, 11)), 30, 2, 2, True), (1, 2, 5, ((10, 6), (10, 14)), 12, 2, 1, False),
                 (3, 0, 20, ((20, 2), (5, 40)), 60, 1, 2, False)), (2, 2, 1, 6, 5),
         (((1, 9, 70), (2, 12, 100), (3, 4, 20)), ((1, 19, 70), (2, 22, 90), (3, 14, 20)),
          ((0, 7, 60), (2, 9, 100), (3, 20, 25))))
QUIET = (ALONE, (), None, ((),))
HOUSES = (LAMP, MILL, DARK, LARGE, QUIET)


def drawn_work(numbers, many, fees=range(100)):
    costs = sorted(numbers.within(0, 99) for _ in range(2))
    pieces = tuple((numbers.within(1, 20), cost) for cost in costs)[:numbers.within(1, 2)]
    return (numbers.below(many), numbers.one_of((0, 0, 1, 3, numbers.within(0, 20))), numbers.one_of(fees), pieces,
            numbers.one_of(fees), numbers.within(1, 2), numbers.within(1, 2), numbers.below(2) == 1)


def drawn_wants(numbers, many, sizes, worths):
    return tuple((numbers.below(many), numbers.one_of(sizes), numbers.one_of(worths)) for _ in range(numbers.below(4)))


def drawn_store(numbers, many):
    top, taken = numbers.within(1, 2), numbers.within(1, 20)
    given = numbers.one_of((taken, max(0, taken - 1), numbers.within(0, taken)))
    return (numbers.below(many), top, numbers.within(0, top), taken, given)


def drawn_house(numbers, works=None, hours=None, mosts=None):
    """A house with so many works and hours, or drawn many; with a store or without; lines that bind or don't; works
    that are seldom turned or often, wants that are made or left out."""
    net = numbers.any_net(mosts or numbers.one_of((range(100), (99,), (4, 9, 15), (2, 5, 30))))
    works = numbers.below(4) if works is None else works
    hours = numbers.within(1, 3) if hours is None else hours
    fees = numbers.one_of((range(100), (0, 1, 5), (0, 20)))
    sizes = numbers.one_of((range(31), range(12)))
    worths = numbers.one_of((range(101), (100, 60, 90), range(100), (70, 95, 99)))
    return (net, tuple(drawn_work(numbers, net[0], fees) for _ in range(works)),
            numbers.one_of((None, drawn_store(numbers, net[0]))),
            tuple(drawn_wants(numbers, net[0], sizes, worths) for _ in range(hours)))


def all_cases(house):
    truths = itertools.product((False, True), repeat=len(house[1]))
    return sorted(itertools.product(truths, (-1, 0, 1) if house[2] else (0,)))


def case_base(house, hour, case):
    net, works, store, hours = house
    found = []
    for place in range(net[0]):
        part = sum(work[1] for work, on in zip(works, case[0]) if on and work[0] == place)
        part -= sum(want[1] for want in hours[hour] if want[0] == place)
        if store and store[0] == place:
            part += {-1: store[4], 0: 0, 1: -store[3]}[case[1]]
        found.append(part)
    return found


def case_blocks(house, hour, case):
    pieces = [(work[0], *piece) for work, on in zip(house[1], case[0]) if on for piece in work[3]]
    return (*pieces, *[want for want in house[3][hour] if want[2] != 100])


def case_keeps(house, case):
    return sum(work[2] for work, on in zip(house[1], case[0]) if on)


def truths_of(house, row, number):
    """How the work was, and is in each hour of the row."""
    return [house[1][number][7]] + [on[number] for on, move in row]


def levels_of(house, row):
    return list(itertools.accumulate([house[2][2] if house[2] else 0] + [move for on, move in row]))


def can_go(house, row):
    top = house[2][1] if house[2] else 0
    if len(row) > len(house[3]) or not all(0 <= level <= top for level in levels_of(house, row)):
        return False
    for number, work in enumerate(house[1]):
        truths = truths_of(house, row, number)
        for ahead, here, behind in zip(truths, truths[1:], truths[2:]):
            if ahead != here and here != behind and (work[5] if here else work[6]) == 2:
                return False
    return True


def is_whole_row(house, row):
    levels = levels_of(house, row)
    return can_go(house, row) and len(row) == len(house[3]) and levels[-1] >= levels[0]


def row_turning(house, row):
    return sum(work[4] for number, work in enumerate(house[1])
               for ahead, here in itertools.pairwise(truths_of(house, row, number)) if here and not ahead)


def rows_of(house, many):
    """All rows of so many cases, whether they can be gone or not."""
    return map(list, itertools.product(all_cases(house), repeat=many))


def whole_rows(house):
    """All whole rows: those of which a first part can't be gone are left aside with it."""
    found = [[]]
    for _ in house[3]:
        found = [row + [case] for row in found for case in all_cases(house) if can_go(house, row + [case])]
    return [row for row in found if is_whole_row(house, row)]


def start_state(house):
    return (tuple(work[7] for work in house[1]), (2,) * len(house[1]), house[2][2] if house[2] else 0)


def lead(house, state, case):
    """Where a case leads from a state, or None."""
    (on, ages, level), (after, move) = state, case
    for work, old, new, age in zip(house[1], on, after, ages):
        if old is not new and age < (work[5] if old else work[6]):
            return None
    if not 0 <= level + move <= (house[2][1] if house[2] else 0):
        return None
    return (after, tuple(1 if old is not new else 2 for old, new in zip(on, after)), level + move)


def step_cost(house, state, case):
    """Keeps and starts."""
    starts = [work[4] for work, old, new in zip(house[1], state[0], case[0]) if new and not old]
    return case_keeps(house, case) + sum(starts)


def is_ratio(thing):
    return (type(thing) is tuple and len(thing) == 2 and all(type(part) is int for part in thing) and thing[1] >= 1
            and math.gcd(*thing) == 1)


def are_pairs(thing):
    return type(thing) is tuple and all(type(part) is tuple and len(part) == 2 for part in thing)


def is_truths(thing, many):
    return type(thing) is tuple and len(thing) == many and all(type(part) is bool for part in thing)


class Looker:
    """Points 22 to 24, written out for one house."""

    def __init__(self, house):
        self.house = house
        self.reckoner = Reckoner(house[0])
        self.limits = all_limits(house[0])

    def is_case(self, thing):
        moves = (-1, 0, 1) if self.house[2] else (0,)
        return is_truths(thing[0], len(self.house[1])) and type(thing[1]) is int and thing[1] in moves

    def is_state(self, thing):
        if type(thing) is not tuple or len(thing) != 3 or not is_truths(thing[0], len(self.house[1])):
            return False
        ages, level = thing[1:]
        if type(ages) is not tuple or len(ages) != len(self.house[1]):
            return False
        if not all(type(age) is int and age in (1, 2) for age in ages):
            return False
        return type(level) is int and 0 <= level <= (self.house[2][1] if self.house[2] else 0)

    def are_weights(self, thing):
        if not are_pairs((thing,)) or not is_ratio(thing[0]) or type(thing[1]) is not tuple or len(thing[1]) > 12:
            return False
        for row in thing[1]:
            if type(row) is not tuple or len(row) != 4 or not all(type(part) is int for part in row[:3]):
                return False
            if row[:3] not in self.limits or not is_ratio(row[3]) or row[3][0] <= 0:
                return False
        told = [row[:3] for row in thing[1]]
        return told == sorted(set(told))

    def are_hour_bounds(self, thing):
        if not are_pairs(thing) or not are_pairs(tuple(pair[0] for pair in thing)):
            return False
        if not all(self.is_case(case) and self.are_weights(weights) for case, weights in thing):
            return False
        told = [case for case, weights in thing]
        return told == [case for case in all_cases(self.house) if case in told]

    def is_table(self, thing):
        if not are_pairs(thing) or not all(self.is_state(state) for state, worth_there in thing):
            return False
        told = [state for state, worth_there in thing]
        return told == sorted(set(told)) and all(there is None or is_ratio(there) for state, there in thing)

    def bound(self, hour, case, weights):
        """None where the case can't be."""
        given = (case_base(self.house, hour, case), case_blocks(self.house, hour, case), weights)
        return None if self.reckoner.shown_at_nought(*given) > 0 else self.reckoner.shown(*given)

    def is_due(self, hour, state, case):
        """Whether a case can be gone from a state, in the last hour to a level that is high enough."""
        behind = lead(self.house, state, case)
        if behind is None:
            return False
        return hour < len(self.house[3]) - 1 or behind[2] >= start_state(self.house)[2]

    def is_step(self, bounds, table, state, there, case):
        if case not in bounds:
            return False
        if bounds[case] is None:
            return True
        behind = lead(self.house, state, case)
        if behind not in table:
            return False
        if table[behind] is None:
            return True
        most = bounds[case] + step_cost(self.house, state, case) + worth(table[behind])
        return there is not None and worth(there) <= most

    def are_tables(self, number, bounds, tables):
        hours = len(self.house[3])
        if type(tables) is not tuple or len(tables) != hours + 1 or not all(map(self.is_table, tables)):
            return False
        if tables[0] != ((start_state(self.house), number),) or not all(there == (0, 1) for state, there in tables[-1]):
            return False
        for hour in range(hours):
            known = {case: self.bound(hour, case, weights) for case, weights in bounds[hour]}
            table = dict(tables[hour + 1])
            for state, there in tables[hour]:
                for case in all_cases(self.house):
                    if self.is_due(hour, state, case) and not self.is_step(known, table, state, there, case):
                        return False
        return True

    def fault(self, paper):
        """None where it is a paper of the house, else which part isn't as told."""
        if type(paper) is not tuple or len(paper) != 4 or type(paper[0]) is not str or paper[0] != "least":
            return 0
        word, number, bounds, tables = paper
        if number is not None and not is_ratio(number):
            return 1
        if type(bounds) is not tuple or len(bounds) != len(self.house[3]):
            return 2
        if not all(map(self.are_hour_bounds, bounds)):
            return 2
        return None if self.are_tables(number, bounds, tables) else 3


class HouseTest(MakingTest):
    """Holds told runs against points 19 to 21."""

    def case_costs(self, house):
        """What each hour's case costs, with its keeps, or None where it can't be; each making looked at."""
        reckoner = Reckoner(house[0])
        found = {}
        for hour in range(len(house[3])):
            for case in all_cases(house):
                made = self.assert_cheapest(reckoner, case_base(house, hour, case), case_blocks(house, hour, case))
                found[hour, case] = worth(made[1]) + case_keeps(house, case) if made[0] == "made" else None
        return found

    def least_cost(self, house):
        """The cost of the cheapest one of all whole rows, gone through one by one, or None."""
        costs = self.case_costs(house)
        found = []
        for row in whole_rows(house):
            parts = [costs[hour, case] for hour, case in enumerate(row)]
            if None not in parts:
                found.append(sum(parts) + row_turning(house, row))
        return min(found, default=None)

    def assert_run(self, house, run):
        """A run is in its form, its row whole, its makings fit, its weights show them, its cost is the sum."""
        self.assertIs(type(run), tuple)
        self.assertEqual(len(run), 2)
        cost, entries = run
        self.assertIs(is_ratio(cost), True)
        self.assertIs(type(entries), list)
        self.assertEqual(len(entries), len(house[3]))
        reckoner = Reckoner(house[0])
        row, total = [], 0
        for hour, entry in enumerate(entries):
            self.assertIs(type(entry), tuple)
            case, amounts, weights = entry
            self.assertIn(case, all_cases(house))
            self.assertIs(type(case), tuple)
            self.assertEqual([type(part) for part in case[0]], [bool] * len(house[1]))
            self.assertIs(type(case[1]), int)
            given = (case_base(house, hour, case), case_blocks(house, hour, case))
            made = sum(worth(amount) * block[2] for amount, block in zip(amounts, given[1]))
            self.assert_made(reckoner, *given, ("made", made.as_integer_ratio(), amounts, weights))
            total += made + case_keeps(house, case)
            row.append(case)
        self.assertIs(is_whole_row(house, row), True)
        self.assertEqual(worth(cost), total + row_turning(house, row), house)
