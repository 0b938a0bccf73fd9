"""Points 2 and 5: tables and right sides."""

import copy
import fractions as reference
import unittest

from drawn import LONG, Numbers, ratio
from mainskeep.fractions import is_fraction
from mainskeep.tables import solved


def whole(numbers):
    return [ratio(number) for number in numbers]


def whole_table(rows):
    return [whole(row) for row in rows]


def applied(table, answer):
    """What the table gives of the answer, reckoned without the program."""
    return [sum(reference.Fraction(*part) * reference.Fraction(*other) for part, other in zip(row, answer))
            .as_integer_ratio() for row in table]


def determinant(table):
    """By the first column's minors: another way than the program's."""
    if not table:
        return reference.Fraction(1)
    total = reference.Fraction(0)
    for number, row in enumerate(table):
        minor = [other[1:] for at, other in enumerate(table) if at != number]
        total += (-1) ** number * reference.Fraction(*row[0]) * determinant(minor)
    return total


class TableTest(unittest.TestCase):
    def assert_solved(self, table, right, answer):
        found = solved(table, right)
        self.assertIs(type(found), list)
        self.assertEqual(found, answer)
        for part in found:
            self.assertIs(is_fraction(part), True)


class TestSolved(TableTest):
    def test_one_list(self):
        self.assert_solved([[(2, 1)]], [(3, 1)], [(3, 2)])
        self.assert_solved([[(-2, 3)]], [(4, 5)], [(-6, 5)])
        self.assert_solved([[(5, 7)]], [(0, 1)], [(0, 1)])

    def test_two_lists(self):
        self.assert_solved(whole_table([[1, 1], [1, -1]]), whole([5, 1]), whole([3, 2]))
        self.assert_solved([[(1, 2), (1, 3)], [(1, 4), (-1, 5)]], [(1, 1), (0, 1)], [(12, 11), (15, 11)])

    def test_lists_of_the_table_are_rows_not_columns(self):
        self.assert_solved(whole_table([[1, 2], [0, 1]]), whole([5, 2]), whole([1, 2]))
        self.assert_solved(whole_table([[1, 0], [2, 1]]), whole([5, 2]), whole([5, -8]))

    def test_three_lists(self):
        table = whole_table([[2, 1, -1], [-3, -1, 2], [-2, 1, 2]])
        self.assert_solved(table, whole([8, -11, -3]), whole([2, 3, -1]))

    def test_four_lists(self):
        table = whole_table([[1, 0, 0, 2], [0, 3, 1, 0], [1, 1, 1, 1], [0, 0, 5, 1]])
        answer = [(1, 2), (-2, 3), (0, 1), (7, 1)]
        self.assert_solved(table, applied(table, answer), answer)

    def test_five_lists_with_their_shares(self):
        table = [[ratio(1, row + column + 1) for column in range(5)] for row in range(5)]
        answer = whole([1, -2, 3, -4, 5])
        self.assert_solved(table, applied(table, answer), answer)

    def test_lists_that_want_to_be_exchanged(self):
        self.assert_solved(whole_table([[0, 1], [1, 0]]), whole([4, 9]), whole([9, 4]))
        self.assert_solved(whole_table([[0, 2, 1], [0, 0, 3], [4, 1, 1]]), whole([4, 6, 11]), whole([2, 1, 2]))
        self.assert_solved(whole_table([[0, 0, 1], [0, 1, 0], [1, 0, 0]]), whole([1, 2, 3]), whole([3, 2, 1]))

    def test_lists_that_want_to_be_exchanged_on_the_way(self):
        self.assert_solved(whole_table([[1, 1, 1], [1, 1, 2], [1, 2, 1]]), whole([6, 9, 8]), whole([1, 2, 3]))

    def test_every_order_of_five_lists(self):
        for turn in range(5):
            for step in (1, 2, 3, 4):
                order = [(turn + step * number) % 5 for number in range(5)]
                table = [whole([1 if column == place else 0 for column in range(5)]) for place in order]
                right = whole([10 + place for place in order])
                self.assert_solved(table, right, whole([10, 11, 12, 13, 14]))

    def test_right_side_of_noughts(self):
        for many in range(1, 6):
            table = [whole([3 if row == column else 1 for column in range(many)]) for row in range(many)]
            self.assert_solved(table, whole([0] * many), whole([0] * many))

    def test_many_small_tables(self):
        numbers = Numbers(5)
        for many in range(1, 6):
            for _ in range(60):
                table, right = numbers.table(many, 2), numbers.fractions(many, 4)
                found = solved(table, right)
                if determinant(table) == 0:
                    self.assertIsNone(found)
                else:
                    self.assertEqual(applied(table, found), right)
                    self.assert_solved(table, right, found)

    def test_fractions_of_many_figures(self):
        numbers = Numbers(7)
        for many in range(1, 6):
            table, answer = numbers.table(many, LONG), numbers.fractions(many, LONG)
            self.assertNotEqual(determinant(table), 0)
            self.assert_solved(table, applied(table, answer), answer)
            right = numbers.fractions(many, LONG)
            found = solved(table, right)
            self.assertEqual(applied(table, found), right)
            self.assert_solved(table, right, found)

    def test_what_was_told_is_handed_in_again(self):
        numbers = Numbers(11)
        table = numbers.table(3, LONG)
        right = numbers.fractions(3, LONG)
        for _ in range(3):
            found = solved(table, right)
            self.assertEqual(applied(table, found), right)
            right = found


class TestNone(TableTest):
    def assert_none(self, table, *rights):
        for right in rights:
            with self.subTest(table=table, right=right):
                self.assertIsNone(solved(table, right))

    def test_one_list(self):
        self.assert_none([[(0, 1)]], [(1, 1)], [(0, 1)], [(-3, 7)])

    def test_no_list_gives_the_right_side(self):
        self.assert_none(whole_table([[1, 2], [2, 4]]), whole([1, 3]))
        self.assert_none(whole_table([[1, 1, 1], [1, 1, 1], [0, 0, 1]]), whole([1, 2, 3]))

    def test_more_than_one_gives_the_right_side(self):
        self.assert_none(whole_table([[1, 2], [2, 4]]), whole([1, 2]), whole([0, 0]))
        self.assert_none(whole_table([[1, 2, 3], [4, 5, 6], [7, 8, 9]]), whole([6, 15, 24]), whole([0, 0, 0]))

    def test_a_list_of_noughts(self):
        self.assert_none(whole_table([[1, 2], [0, 0]]), whole([1, 0]), whole([1, 1]))
        self.assert_none(whole_table([[0, 0], [1, 2]]), whole([0, 1]), whole([1, 1]))

    def test_a_place_of_noughts(self):
        self.assert_none(whole_table([[0, 1], [0, 2]]), whole([1, 2]), whole([1, 3]))
        self.assert_none(whole_table([[1, 0], [2, 0]]), whole([1, 2]), whole([1, 3]))

    def test_a_table_of_noughts(self):
        for many in range(1, 6):
            table = whole_table([[0] * many for _ in range(many)])
            self.assert_none(table, whole([0] * many), whole([1] * many), whole([0] * (many - 1) + [1]))

    def test_one_list_is_made_of_the_others(self):
        numbers = Numbers(13)
        for many in range(2, 6):
            table, answer = numbers.table(many, LONG), numbers.fractions(many, LONG)
            table[-1] = applied([list(column) for column in zip(*table[:-1])], numbers.fractions(many - 1, 9))
            right = applied(table, answer)
            beside = right[:-1] + [ratio(reference.Fraction(*right[-1]) + reference.Fraction(1, LONG))]
            self.assert_none(table, right, beside)


class TestNothingIsKept(TableTest):
    CASES = (
        (whole_table([[0, 2, 1], [0, 0, 3], [4, 1, 1]]), whole([4, 6, 11])),
        (whole_table([[1, 2], [2, 4]]), whole([1, 3])),
        ([[(2, 1)]], [(3, 1)]),
        (whole_table([[0, 0], [0, 0]]), whole([0, 0])),
    )

    def test_what_is_handed_in_stays_as_it_was(self):
        for table, right in copy.deepcopy(self.CASES):
            rows = list(table)
            before = copy.deepcopy((table, right))
            solved(table, right)
            self.assertEqual((table, right), before)
            for row, same in zip(table, rows):
                self.assertIs(row, same)

    def test_one_list_may_stand_twice(self):
        row = whole([1, 2])
        self.assertIsNone(solved([row, row], row))
        self.assertEqual(row, whole([1, 2]))
        self.assert_solved([row, whole([0, 1])], row, whole([-3, 2]))
        self.assertEqual(row, whole([1, 2]))

    def test_told_lists_are_new_ones(self):
        table, right = whole_table([[1, 0], [0, 1]]), whole([3, 4])
        first, second = solved(table, right), solved(table, right)
        self.assertEqual(first, right)
        self.assertIsNot(first, second)
        self.assertIsNot(first, right)

    def test_changing_what_was_told_changes_no_other_answer(self):
        table, right = whole_table([[1, 1], [1, -1]]), whole([5, 1])
        first, second = solved(table, right), solved(table, right)
        first[0] = (99, 1)
        first.append((98, 1))
        self.assertEqual(second, whole([3, 2]))
        self.assert_solved(table, right, whole([3, 2]))
        self.assertEqual((table, right), (whole_table([[1, 1], [1, -1]]), whole([5, 1])))

    def test_changing_what_was_handed_in_changes_no_earlier_answer(self):
        table, right = whole_table([[1, 1], [1, -1]]), whole([5, 1])
        found = solved(table, right)
        table[0][0] = (7, 1)
        table[1].clear()
        right.clear()
        self.assertEqual(found, whole([3, 2]))
        self.assert_solved(whole_table([[1, 1], [1, -1]]), whole([5, 1]), whole([3, 2]))

    def test_an_answer_goes_by_what_is_handed_in_now(self):
        table, right = whole_table([[1, 1], [1, -1]]), whole([5, 1])
        solved(table, right)
        table[0][0] = (3, 1)
        right[0] = (7, 1)
        self.assert_solved(table, right, whole([2, 1]))


if __name__ == "__main__":
    unittest.main()
