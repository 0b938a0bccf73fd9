"""Points 2, 3 and 22 to 24: what is a paper of a house, and what is refused."""

import itertools
import unittest

from drawn import LONG, OTHER_THINGS, Numbers, all_limits, assert_unchanged, part_at, places_of, put_at, spoilt, worth
from housed import (ALONE, DARK, HOUSES, LAMP, LARGE, MILL, QUIET, Looker, all_cases, drawn_house, lead, start_state,
                    step_cost)
from mainskeep.errors import MainsError, NoPaper
from mainskeep.looker import look
from mainskeep.papers import least_paper
from mainskeep.runs import cheapest_run
from reckoned import drawn_weights


def refused_at(house, thing):
    """The value at of the refusal, or None where it is let by."""
    try:
        return look(house, thing)
    except NoPaper as refusal:
        if type(refusal.at) is not int:
            raise AssertionError("at is a whole number") from refusal
        return refusal.at


def all_states(house):
    many, top = len(house[1]), house[2][1] if house[2] else 0
    return sorted(itertools.product(itertools.product((False, True), repeat=many),
                                    itertools.product((1, 2), repeat=many), range(top + 1)))


def ratio_or_none(number):
    return None if number is None else number.as_integer_ratio()


class Hand:
    """Papers of one house by another hand: the worths are reckoned in the test, from whatever weights are given."""

    def __init__(self, house):
        self.house = house
        self.looker = Looker(house)
        self.hours = range(len(house[3]))

    def told_weights(self):
        """The weights of the program's own paper, by hour and case."""
        return {(hour, case): weights for hour, pairs in enumerate(least_paper(self.house)[2])
                for case, weights in pairs}

    def ways(self, hour, state):
        return [case for case in all_cases(self.house) if self.looker.is_due(hour, state, case)]

    def layers(self, every):
        """Each hour's states: those that are reached, or every one."""
        found = [[start_state(self.house)]]
        for hour in self.hours:
            led = {lead(self.house, state, case) for state in found[-1] for case in self.ways(hour, state)}
            found.append(all_states(self.house) if every else sorted(led))
        return found

    def worths(self, weights, layers, less):
        """Each state's worth by the weights; less so much from each but the last ones."""
        tables = [{state: 0 for state in layers[-1]}]
        for hour in reversed(self.hours):
            bounds = {case: self.looker.bound(hour, case, weights[hour, case]) for case in all_cases(self.house)}
            table = {}
            for state in layers[hour]:
                costs = [bounds[case] + step_cost(self.house, state, case) + tables[0][lead(self.house, state, case)]
                         for case in self.ways(hour, state)
                         if bounds[case] is not None and tables[0][lead(self.house, state, case)] is not None]
                table[state] = min(costs) - less if costs else None
            tables.insert(0, table)
        return tables

    def paper(self, weights=None, every=False, less=0):
        weights = weights or self.told_weights()
        tables = self.worths(weights, self.layers(every), less)
        bounds = tuple(tuple((case, weights[hour, case]) for case in all_cases(self.house)) for hour in self.hours)
        number = ratio_or_none(tables[0][start_state(self.house)])
        return ("least", number, bounds, tuple(tuple((state, ratio_or_none(there)) for state, there in table.items())
                                               for table in tables))


class LookerTest(unittest.TestCase):
    def assert_let_by(self, house, paper):
        self.assertIsNone(refused_at(house, paper), house)

    def assert_at(self, wanted, house, *things):
        for thing in things:
            self.assertEqual(refused_at(house, thing), wanted, thing)

    def assert_like_the_document(self, house, looker, thing):
        """Held against the points written out in the test; tells whether it was let by."""
        found = refused_at(house, thing)
        self.assertEqual(found, looker.fault(thing), thing)
        return found is None


class TestTold(LookerTest):
    def test_told_papers_are_let_by(self):
        for house in HOUSES:
            self.assertIsNone(look(house, least_paper(house)))

    def test_told_papers_of_drawn_houses(self):
        numbers = Numbers(233)
        for works, hours in itertools.product(range(4), (1, 2, 3)):
            for _ in range(8):
                house = drawn_house(numbers, works, hours)
                self.assert_let_by(house, least_paper(house))

    def test_papers_of_another_house(self):
        papers = [least_paper(house) for house in HOUSES]
        for at, house in enumerate(HOUSES):
            for other, paper in enumerate(papers):
                self.assertEqual(refused_at(house, paper), Looker(house).fault(paper))
                if at != other:
                    self.assertIsNotNone(refused_at(house, paper))

    def test_what_is_handed_in_stays_as_it_was(self):
        for house in (LAMP, MILL):
            word, number, bounds, tables = least_paper(house)
            assert_unchanged(self, look, house, (word, number, bounds, tables))
            assert_unchanged(self, look, house, [word, number, list(bounds), list(tables)])
            assert_unchanged(self, look, house, (word, number, bounds, [list(table) for table in tables]))


class TestByAnotherHand(LookerTest):
    def test_the_same_weights(self):
        for house in HOUSES:
            paper = Hand(house).paper()
            self.assert_let_by(house, paper)
            self.assertEqual(paper[1], least_paper(house)[1])

    def test_more_states(self):
        for house in (LAMP, MILL, DARK, QUIET):
            paper = Hand(house).paper(every=True)
            self.assert_let_by(house, paper)
            self.assertEqual(paper[1], least_paper(house)[1])

    def test_other_weights(self):
        numbers = Numbers(239)
        for house in (LAMP, MILL, DARK, LARGE, QUIET) + tuple(drawn_house(numbers) for _ in range(20)):
            hand = Hand(house)
            told = hand.told_weights()
            run = cheapest_run(house)
            for many in (0, 1, 3, 12):
                weights = {key: drawn_weights(numbers, house[0], many) for key in told}
                paper = hand.paper(weights)
                self.assert_let_by(house, paper)
                if run is not None:
                    self.assertLessEqual(worth(paper[1]), worth(run[0]))
                mixed = {key: numbers.one_of((told[key], weights[key])) for key in told}
                self.assert_let_by(house, hand.paper(mixed))

    def test_a_lesser_number(self):
        for house in (LAMP, MILL, LARGE):
            for less in (1, 1000, 10 ** 30):
                paper = Hand(house).paper(less=less)
                self.assert_let_by(house, paper)
                self.assertEqual(worth(paper[1]), worth(least_paper(house)[1]) - less * len(house[3]))

    def test_only_the_first_worth_lesser(self):
        for house in (LAMP, MILL, LARGE):
            word, number, bounds, tables = least_paper(house)
            for top in (-5, 0, 1):
                first = ((tables[0][0][0], (top, 1)),)
                self.assert_let_by(house, (word, (top, 1), bounds, (first,) + tables[1:]))

    def test_more_cases_and_less(self):
        # Not each case can be gone from the first state: bounds of the others may stand there, or not.
        work = (0, 2, 3, ((10, 4),), 7, 2, 2, False)
        house = (ALONE, (work,), (0, 1, 1, 2, 2), (((0, 5, 60),), ((0, 5, 60),)))
        word, number, bounds, tables = paper = Hand(house).paper()
        self.assert_let_by(house, paper)
        asked = {case for case in all_cases(house) if lead(house, start_state(house), case)}
        self.assertLess(len(asked), len(all_cases(house)))
        fewer = tuple(pair for pair in bounds[0] if pair[0] in asked)
        self.assert_let_by(house, (word, number, (fewer,) + bounds[1:], tables))
        for pair in fewer:
            less = tuple(other for other in fewer if other != pair)
            self.assert_at(3, house, (word, number, (less,) + bounds[1:], tables))
        for pair in bounds[0]:
            if pair[0] not in asked:
                spoiled = put_at(bounds, (0, bounds[0].index(pair), 1), (None, ()))
                self.assert_at(2, house, (word, number, spoiled, tables))

    def test_a_number_where_there_is_no_run(self):
        # Nothing bears on the worth of a state from which no case can be.
        house = (ALONE, (), None, (((0, 5, 100),),))
        word, number, bounds, tables = least_paper(house)
        self.assertIsNone(number)
        state = start_state(house)
        for told in ((0, 1), (LONG, 7), (-3, 1)):
            self.assert_let_by(house, (word, told, bounds, (((state, told),), tables[1])))

    def test_no_number_where_there_is_a_run(self):
        for house in (LAMP, MILL, LARGE, QUIET):
            word, number, bounds, tables = least_paper(house)
            first = ((start_state(house), None),)
            self.assert_at(3, house, (word, None, bounds, (first,) + tables[1:]))
            nones = tuple(tuple((state, None) for state, there in table) for table in tables[:-1])
            self.assert_at(3, house, (word, None, bounds, nones + tables[-1:]))

    def test_weights_that_show_too_little(self):
        # What shows that a case can't be is needed: with other weights the same tables are refused.
        word, number, bounds, tables = least_paper(DARK)
        for at, pair in enumerate(bounds[1]):
            if pair[0][1] == 0:
                self.assert_at(3, DARK, (word, number, put_at(bounds, (1, at, 1), ((0, 1), ())), tables))


class TestParts(LookerTest):
    """Each part not as told, with the right number."""

    def spoil(self, house, way, part):
        return put_at(least_paper(house), way, part)

    def test_no_tuple_of_four(self):
        paper = least_paper(LAMP)
        self.assert_at(0, LAMP, *OTHER_THINGS)
        self.assert_at(0, LAMP, list(paper), paper[:3], paper[1:], paper + (None,), (paper,), [paper], str(paper),
                       paper[:0], ("least",), ("least",) * 3, ("least",) * 5)

    def test_not_begun_with_the_text_least(self):
        for word in ("Least", "least ", "", "most", None, 0, True, ("least",), ["least"], "LEAST"):
            self.assert_at(0, LAMP, self.spoil(LAMP, (0,), word))

    def test_number(self):
        for house in (LAMP, DARK):
            for number in (0, 72, True, False, "72", "None", "", (), (72,), (72, 1, 1), [72, 1], (144, 2), (72, 0),
                           (-72, -1), (0, 2), (True, 1), (72, True), (None, 1), (72, None), ((72, 1),), ("72", 1)):
                self.assert_at(1, house, self.spoil(house, (1,), number))

    def test_bounds(self):
        bounds = least_paper(LAMP)[2]
        for other in (None, 0, "", [], (), list(bounds), bounds[:1], bounds + ((),), bounds + bounds[:1],
                      (None, bounds[1]), (list(bounds[0]), bounds[1]), ((None,), bounds[1]), (((),), bounds[1]),
                      (bounds[0][0], bounds[1])):
            self.assert_at(2, LAMP, self.spoil(LAMP, (2,), other))

    def test_cases_of_bounds(self):
        for case in ((False,), (False, 0), ((0,), 0), ((False,), False), ((False,), None), ((False,), "0"),
                     ((False,), 1), ((False,), -1), ([False], 0), [(False,), 0], ((False, False), 0), ((), 0),
                     ((False,), 0, 0), ((None,), 0), None, (((False,),), 0)):
            self.assert_at(2, LAMP, self.spoil(LAMP, (2, 0, 0, 0), case))
        for case in (((True, True), 2), ((True, True), -2), ((True, True), True), ((True, 1), 1), ((True,), 1)):
            self.assert_at(2, MILL, self.spoil(MILL, (2, 0, 11, 0), case))

    def test_order_of_bounds(self):
        first, second = least_paper(LAMP)[2][0]
        for hour in ((second, first), (first, first), (first, second, second), (first, first, second),
                     (first, second, first)):
            self.assert_at(2, LAMP, self.spoil(LAMP, (2, 0), hour))

    def test_weights(self):
        for weights in (None, (), ((5, 1),), ((5, 1), (), ()), [(5, 1), ()], ((5, 1), []), (5, ()), (None, ()),
                        ((10, 2), ()), ((5, 0), ()), ((5, 1), None), ((True, 1), ()), ((5, 1), ((),)), ((), (5, 1)),
                        ((5, 1), (None,)), ((5, 1), 0)):
            self.assert_at(2, LAMP, self.spoil(LAMP, (2, 0, 0, 1), weights))

    def test_rows_that_are_no_limits(self):
        # The pair's line can't be lost, so there are the limits (-1, 0, -1) and (-1, 0, 1).
        for row in ((0, 0, 1), (-1, 1, 1), (-1, -1, 1), (-1, 0, 0), (-1, 0, 2), (-2, 0, 1), (-1, False, 1),
                    (-1, 0, True), (-1, 0, None), (-1, "0", 1), (-1, 0), (-1, 0, 1, 1)):
            self.assert_at(2, MILL, self.spoil(MILL, (2, 0, 0, 1), ((5, 1), (row + ((1, 1),),))))
        good = ((5, 1), ((-1, 0, 1, (1, 1)),))
        self.assertIn(refused_at(MILL, self.spoil(MILL, (2, 0, 0, 1), good)), (None, 3))

    def test_a_line_that_is_lost_bears_nothing(self):
        for row in ((0, 0, 1), (6, 0, 1), (0, 6, 1), (True, 0, 1), (False, 1, 1), (0, True, 1)):
            self.assert_at(2, LARGE, self.spoil(LARGE, (2, 0, 0, 1), ((5, 1), (row + ((1, 1),),))))
        good = ((5, 1), ((0, 1, 1, (1, 1)),))
        self.assertIn(refused_at(LARGE, self.spoil(LARGE, (2, 0, 0, 1), good)), (None, 3))

    def test_weights_of_rows(self):
        for weight in ((0, 1), (-1, 1), (2, 2), (1, 0), 1, 0, None, True, "1", [1, 1], (1,), (1, 1, 1), (True, 1)):
            self.assert_at(2, MILL, self.spoil(MILL, (2, 0, 0, 1), ((5, 1), ((-1, 0, 1, weight),))))

    def test_order_of_rows(self):
        low, high = (-1, 0, -1, (3, 1)), (-1, 0, 1, (1, 1))
        for rows in ((high, low), (low, low), (high, high), (low, high, high), ((-1, 0, 1, (1, 1)), (-1, 0, 1, (2, 1))),
                     [low, high]):
            self.assert_at(2, MILL, self.spoil(MILL, (2, 0, 0, 1), ((5, 1), rows)))
        both = self.spoil(MILL, (2, 0, 0, 1), ((5, 1), (low, high)))
        self.assertIn(refused_at(MILL, both), (None, 3))

    def test_twelve_rows_and_thirteen(self):
        rows = tuple(limit + ((1, LONG),) for limit in all_limits(LARGE[0]))
        hand = Hand(LARGE)
        weights = hand.told_weights()
        for key in weights:
            weights[key] = ((0, 1), rows[20:32])
        self.assert_let_by(LARGE, hand.paper(weights))
        for key in list(weights)[:3] + list(weights)[-3:]:
            self.assert_at(2, LARGE, hand.paper({**weights, key: ((0, 1), rows[20:33])}))

    def test_tables(self):
        tables = least_paper(LAMP)[3]
        for other in (None, 0, "", [], (), list(tables), tables[:2], tables + ((),), tables[:1] * 3, tables[::-1],
                      (tables[0], None, tables[2]), (tables[0], list(tables[1]), tables[2]), tables + tables[-1:],
                      (tables[0], (), tables[2]), (tables[0], tables[1], ()), ((),) + tables[1:]):
            self.assert_at(3, LAMP, self.spoil(LAMP, (3,), other))

    def test_states(self):
        on = least_paper(LAMP)[3][1][1]
        self.assertEqual(on[0], ((True,), (1,), 0))
        for state in (((True,), (1,)), ((True,), (1,), 0, 0), [(True,), (1,), 0], ((1,), (1,), 0),
                      ((True,), (True,), 0), ((True,), (1,), False), ((True,), (1,), 1), ((True,), (1,), -1),
                      ((True,), (0,), 0), ((True,), (3,), 0), ((True,), (1, 1), 0), ((True, True), (1,), 0),
                      ((True,), [1], 0), ([True], (1,), 0), ((), (), 0), None, "", ((True,), None, 0),
                      ((True,), (1,), None), ((None,), (1,), 0), ((True,), (), 0), ((), (1,), 0)):
            self.assert_at(3, LAMP, self.spoil(LAMP, (3, 1, 1, 0), state))
        for pair in ((), (on[0],), on + (None,), list(on), None, 5, (on,)):
            self.assert_at(3, LAMP, self.spoil(LAMP, (3, 1, 1), pair))

    def test_levels_of_states(self):
        # A store holds 0 or 1; states to which nothing leads may stand there as long as they are states.
        house = (ALONE, (), (0, 1, 0, 1, 1), ((), ()))
        paper = Hand(house).paper(every=True)
        self.assert_let_by(house, paper)
        self.assertEqual([state[2] for state, there in paper[3][2]], [0, 1])
        for level in (2, -1, True, None):
            self.assert_at(3, house, put_at(paper, (3, 2, 1, 0, 2), level))
        self.assert_at(3, house, put_at(paper, (3, 2), paper[3][2] + ((((), (), 2), (0, 1)),)))

    def test_order_of_states(self):
        table = least_paper(LAMP)[3][1]
        self.assertEqual(len(table), 2)
        for other in (table[::-1], table + table, table[:1] * 2 + table[1:], table[:1] + table[1:] * 2):
            self.assert_at(3, LAMP, self.spoil(LAMP, (3, 1), other))

    def test_worths(self):
        for there in (0, 50, True, "50", "", (), (50,), [50, 1], (100, 2), (50, 0), (50, True), (51, 1)):
            self.assert_at(3, LAMP, self.spoil(LAMP, (3, 1, 1, 1), there))
        # A lesser worth than it could be leaves too little for the number.
        self.assert_at(3, LAMP, self.spoil(LAMP, (3, 1, 1, 1), (49, 1)))

    def test_the_first_table(self):
        word, number, bounds, tables = least_paper(LAMP)
        start = start_state(LAMP)
        for first in ((), ((start, (71, 1)),), ((start, (73, 1)),), ((start, None),), ((((True,), (2,), 0), number),),
                      ((((False,), (1,), 0), number),), ((start, number), (((True,), (2,), 0), (0, 1))),
                      ((((False,), (1,), 0), (0, 1)), (start, number)), ((start, number),) * 2):
            self.assert_at(3, LAMP, (word, number, bounds, (first,) + tables[1:]))
        for other in ((71, 1), (73, 1), None):
            self.assert_at(3, LAMP, (word, other, bounds, tables))

    def test_the_last_table(self):
        for there in ((1, 1), (-1, 1), None, 0, (0, 2), (1, LONG)):
            for at in range(len(least_paper(LAMP)[3][2])):
                self.assert_at(3, LAMP, self.spoil(LAMP, (3, 2, at, 1), there))

    def test_a_state_that_is_missing(self):
        for house in (LAMP, MILL, LARGE):
            looker = Looker(house)
            for hour, table in enumerate(least_paper(house)[3]):
                for at in range(0, len(table), 1 + len(table) // 6):
                    paper = self.spoil(house, (3, hour), table[:at] + table[at + 1:])
                    # It may be missed by nothing that can be, as the points written out tell.
                    self.assert_like_the_document(house, looker, paper)
        self.assert_at(3, LAMP, self.spoil(LAMP, (3, 1), least_paper(LAMP)[3][1][:1]))

    def test_a_worth_too_great_by_a_little(self):
        for house in (LAMP, MILL, LARGE):
            word, number, bounds, tables = least_paper(house)
            for little in ((1, LONG), (1, 3), (1, 1), (LONG, 1)):
                more = (worth(number) + worth(little)).as_integer_ratio()
                first = ((start_state(house), more),)
                self.assert_at(3, house, (word, more, bounds, (first,) + tables[1:]))

    def test_weights_that_show_a_little_less(self):
        word, number, bounds, tables = least_paper(LAMP)
        at = [case for case, weights in bounds[0]].index(((True,), 0))
        level = worth(bounds[0][at][1][0])
        less = (level - worth((1, LONG))).as_integer_ratio()
        self.assert_at(3, LAMP, put_at((word, number, bounds, tables), (2, 0, at, 1), (less, ())))

    def test_the_first_that_is_due(self):
        good = least_paper(LAMP)
        wrong = ("most", 5, None, None)
        for many in range(1, 16):
            spoiled = [at for at in range(4) if many >> at & 1]
            paper = tuple(wrong[at] if at in spoiled else good[at] for at in range(4))
            self.assert_at(spoiled[0], LAMP, paper)

    def test_the_refusal(self):
        with self.assertRaises(MainsError) as caught:
            look(LAMP, None)
        self.assertIs(type(caught.exception), NoPaper)
        self.assertEqual(caught.exception.at, 0)


class TestSpoilt(LookerTest):
    """Told papers spoilt at each place, against the points written out in the test."""

    def disturbed(self, paper):
        yield from (thing for way, thing in spoilt(paper))
        for way in places_of(paper):
            part = part_at(paper, way)
            if isinstance(part, tuple):
                for at in range(len(part)):
                    yield put_at(paper, way, part[:at] + part[at + 1:])
                    yield put_at(paper, way, part[:at + 1] + part[at:])
                    yield put_at(paper, way, part[:at] + part[at + 1:at + 2] + part[at:at + 1] + part[at + 2:])
            elif isinstance(part, int) and not isinstance(part, bool):
                for other in (part + 1, part - 1, -part, 0):
                    yield put_at(paper, way, other)
            elif isinstance(part, bool):
                yield put_at(paper, way, not part)
            elif part is None:
                for other in ((0, 1), (5, 1), (LONG, 1)):
                    yield put_at(paper, way, other)

    def go_through(self, house, paper, keep):
        looker = Looker(house)
        cost = cheapest_run(house)
        seen = {True: 0, False: 0}
        for thing in self.disturbed(paper):
            if keep():
                let_by = self.assert_like_the_document(house, looker, thing)
                seen[let_by] += 1
                if let_by and cost is not None:
                    self.assertIsNotNone(thing[1])
                    self.assertLessEqual(worth(thing[1]), worth(cost[0]))
        return seen

    def test_small_houses_at_each_place(self):
        for house in (QUIET, LAMP, (ALONE, (), None, (((0, 5, 100),),))):
            self.assertGreater(self.go_through(house, least_paper(house), lambda: True)[False], 100)

    def test_each_place_of_a_paper_by_another_hand(self):
        self.go_through(LAMP, Hand(LAMP).paper(every=True, less=3), lambda: True)

    def test_larger_houses_at_drawn_places(self):
        numbers = Numbers(241)
        for house, one_of in ((MILL, 40), (DARK, 5), (LARGE, 1000)):
            seen = self.go_through(house, least_paper(house), lambda: numbers.below(one_of) == 0)
            self.assertGreater(seen[False], 20)

    def test_drawn_houses_at_drawn_places(self):
        numbers = Numbers(251)
        seen = {True: 0, False: 0}
        for _ in range(30):
            house = drawn_house(numbers, numbers.below(3), numbers.within(1, 2))
            paper = numbers.one_of((least_paper(house), Hand(house).paper(less=numbers.below(3))))
            for let_by, many in self.go_through(house, paper, lambda: numbers.below(60) == 0).items():
                seen[let_by] += many
        self.assertGreater(min(seen.values()), 20, seen)

    def test_no_paper_tells_too_much(self):
        # Worths drawn at will: whatever is let by tells no more than the run costs.
        numbers = Numbers(257)
        let_by = 0
        for _ in range(400):
            house = drawn_house(numbers, numbers.within(0, 2), numbers.within(1, 2))
            word, number, bounds, tables = Hand(house).paper()
            if number is None:
                continue
            for _ in range(3):
                changed = tuple(tuple((state, numbers.one_of((there, there, (numbers.below(300) - 100, 1))))
                                      for state, there in table) for table in tables[:-1]) + tables[-1:]
                told = changed[0][0][1]
                paper = (word, told, bounds, changed)
                if refused_at(house, paper) is None:
                    let_by += 1
                    self.assertIsNotNone(told)
                    self.assertLessEqual(worth(told), worth(number))
        self.assertGreater(let_by, 100)


if __name__ == "__main__":
    unittest.main()
