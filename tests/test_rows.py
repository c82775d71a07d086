"""Rows and histories (points 2 and 4)."""

import copy
import inspect
import itertools
import unittest

from cases import HUGE, LONG_ROWS, NO_NUMBERS, ROW, TWELVE, histories_of, long_cases, played, repr_of, small_rows
from putinside import rows
from putinside.rows import is_history, is_row, moves, outer_boxes


class InterfaceTest(unittest.TestCase):
    def test_names_and_parameters(self):
        for name, words in [
            ("is_row", ["thing"]),
            ("is_history", ["row", "thing"]),
            ("outer_boxes", ["row", "history"]),
            ("moves", ["row", "history"]),
        ]:
            with self.subTest(name):
                self.assertEqual(list(inspect.signature(getattr(rows, name)).parameters), words)
                self.assertEqual(getattr(rows, name).__module__, "putinside.rows")

    def test_by_name(self):
        self.assertIs(is_row(thing=ROW), True)
        self.assertIs(is_row(thing=(2, 2)), False)
        self.assertIs(is_history(row=ROW, thing=[1, 2]), True)
        self.assertIs(is_history(thing=[3], row=ROW), False)
        self.assertEqual(outer_boxes(history=[2], row=ROW), outer_boxes(ROW, [2]))
        self.assertEqual(moves(history=[2, 0, 1], row=ROW), moves(ROW, [2, 0, 1]))


class ExamplesTest(unittest.TestCase):
    def test_examples_of_the_document(self):
        self.assertIs(is_row((2, 4, 1, 3)), True)
        self.assertIs(is_row((2, 2)), False)
        self.assertIs(is_history((2, 4, 1, 3), [1, 2]), True)
        self.assertEqual(outer_boxes(ROW, [2]), [(0, 0, 0), (1, 1, 1), (2, 3, 3)])
        self.assertEqual(moves(ROW, [2, 0, 1]), [(2, 3), (0, 1), (3, 1)])


class IsRowTest(unittest.TestCase):
    def check(self, thing, wanted):
        before = copy.deepcopy(thing)
        self.assertIs(is_row(thing), wanted)
        self.assertIs(is_row(thing), wanted)
        self.assertEqual(repr_of(thing), repr_of(before))

    def test_rows(self):
        for row in list(small_rows()) + LONG_ROWS:
            self.check(row, True)
        for row in [(1,), (7,), (10 ** 9,), (10 ** 9 + 1, 1), (HUGE,), (HUGE, HUGE + 1), (HUGE + 1, 1, HUGE)]:
            self.check(row, True)

    def test_equal_sizes(self):
        for thing in [(2, 2), (1, 2, 1), (3, 1, 2, 2), (HUGE, HUGE), (HUGE, 1, 2, HUGE), (1,) * 12]:
            self.check(thing, False)

    def test_sizes_below_one(self):
        for thing in [(0,), (-1,), (0, 1), (1, 0), (3, 2, 0), (1, -1), (2, -3, 4), (-HUGE,), (1, -HUGE, 2)]:
            self.check(thing, False)

    def test_booleans_in_place_of_numbers(self):
        for thing in [(True,), (False,), (True, 2), (2, True), (2, False, 3), (True, True), (True, 1)]:
            self.check(thing, False)

    def test_other_values_in_place_of_numbers(self):
        for wrong in NO_NUMBERS:
            for thing in [(wrong,), (1, wrong), (wrong, 1), (2, wrong, 3), (wrong, wrong)]:
                self.check(thing, False)

    def test_no_tuple(self):
        for thing in NO_NUMBERS + [0, 1, 4, -1, HUGE, [2, 4, 1, 3], [5], "1", "24", ""]:
            if thing not in [(1,), (1, 2)]:
                self.check(thing, False)

    def test_empty(self):
        self.check((), False)
        self.check([], False)

    def test_nested_rows(self):
        for thing in [(ROW,), [ROW], (1, ROW), ((2, 4), (1, 3)), ([2, 4, 1, 3],), ((((1,),),),)]:
            self.check(thing, False)


class IsHistoryTest(unittest.TestCase):
    def check(self, row, thing, wanted):
        before = copy.deepcopy(thing)
        for given in [tuple(row), list(row)]:
            self.assertIs(is_history(given, thing), wanted)
            self.assertIs(is_history(given, thing), wanted)
            self.assertEqual(tuple(given), tuple(row))
        self.assertEqual(repr_of(thing), repr_of(before))

    def test_every_order_of_different_gaps(self):
        for row in small_rows():
            if row == tuple(sorted(row)):
                for history in histories_of(row):
                    self.check(row, history, True)
        for row, history in long_cases():
            self.check(row, history, True)

    def test_empty_history(self):
        for row in [(1,), (2, 1), ROW, TWELVE]:
            self.check(row, [], True)

    def test_full_histories(self):
        self.check(ROW, [0, 1, 2], True)
        self.check(ROW, [2, 1, 0], True)
        self.check(TWELVE, list(range(11)), True)
        self.check(TWELVE, list(range(10, -1, -1)), True)

    def test_gaps_that_do_not_exist(self):
        for thing in [[3], [4], [-1], [0, 3], [3, 0], [0, 1, 2, 3], [1, -1], [-1, -2], [HUGE], [0, -HUGE]]:
            self.check(ROW, thing, False)
        self.check(TWELVE, [11], False)
        self.check(TWELVE, list(range(12)), False)

    def test_row_of_one_box_has_no_gap(self):
        for thing in [[0], [-1], [1], [0, 0]]:
            self.check((1,), thing, False)

    def test_row_of_two_boxes_has_one_gap(self):
        self.check((1, 2), [0], True)
        self.check((1, 2), [1], False)

    def test_gaps_named_twice(self):
        for thing in [[0, 0], [2, 1, 2], [0, 1, 2, 0], [1, 1, 1], [5, 5]]:
            self.check(ROW, thing, False)

    def test_booleans_in_place_of_numbers(self):
        for thing in [[False], [True], [False, 1], [0, True], [0, False], [1, True], [2, True, False]]:
            self.check(ROW, thing, False)

    def test_other_values_in_place_of_numbers(self):
        for wrong in NO_NUMBERS:
            for thing in [[wrong], [0, wrong], [wrong, 0], [1, wrong, 2], [wrong, wrong]]:
                self.check(ROW, thing, False)

    def test_no_list(self):
        others = [thing for thing in NO_NUMBERS if thing not in ([], [1], [0, 1])]
        for thing in others + [0, 1, 3, -1, HUGE, "-", "0", "0 1", "012", (), (0,), (1, 2), (2, 0, 1), ROW]:
            self.check(ROW, thing, False)

    def test_nested_histories(self):
        for thing in [[[0, 1]], [[0], [1]], [(0, 1)], [(0,), 1], [[]], [[], 0]]:
            self.check(ROW, thing, False)


class OuterBoxesTest(unittest.TestCase):
    def test_against_heaps(self):
        for row in small_rows():
            for history in histories_of(row):
                self.assertEqual(outer_boxes(row, history), played(row, history)[0])
        for row, history in long_cases():
            self.assertEqual(outer_boxes(row, history), played(row, history)[0])

    def test_empty_history(self):
        self.assertEqual(outer_boxes((7,), []), [(0, 0, 0)])
        self.assertEqual(outer_boxes(ROW, []), [(0, 0, 0), (1, 1, 1), (2, 2, 2), (3, 3, 3)])
        self.assertEqual(outer_boxes(TWELVE, []), [(k, k, k) for k in range(12)])

    def test_full_history(self):
        self.assertEqual(outer_boxes((1, 2), [0]), [(0, 1, 1)])
        self.assertEqual(outer_boxes((2, 1), [0]), [(0, 1, 0)])
        self.assertEqual(outer_boxes(ROW, [1, 0, 2]), [(0, 3, 1)])
        self.assertEqual(outer_boxes(TWELVE, list(range(11))), [(0, 11, 1)])

    def test_between(self):
        self.assertEqual(outer_boxes(ROW, [0]), [(0, 1, 1), (2, 2, 2), (3, 3, 3)])
        self.assertEqual(outer_boxes(ROW, [2, 0]), [(0, 1, 1), (2, 3, 3)])
        self.assertEqual(outer_boxes(ROW, [1]), [(0, 0, 0), (1, 2, 1), (3, 3, 3)])
        self.assertEqual(outer_boxes(TWELVE, [7, 3, 8, 4]), [
            (0, 0, 0), (1, 1, 1), (2, 2, 2), (3, 5, 5), (6, 6, 6), (7, 9, 8), (10, 10, 10), (11, 11, 11)])

    def test_ascending_list_of_tuples(self):
        for row, history in long_cases():
            found = outer_boxes(row, history)
            self.assertIs(type(found), list)
            self.assertEqual(found, sorted(found))
            self.assertEqual({type(triple) for triple in found}, {tuple})
            self.assertEqual(len(found), len(row) - len(history))

    def test_order_of_the_gaps_does_not_matter(self):
        for history in itertools.permutations([0, 2, 3, 7]):
            self.assertEqual(outer_boxes(TWELVE, list(history)), outer_boxes(TWELVE, [0, 2, 3, 7]))


class MovesTest(unittest.TestCase):
    def test_against_heaps(self):
        for row in small_rows():
            for history in histories_of(row):
                self.assertEqual(moves(row, history), played(row, history)[1])
        for row, history in long_cases():
            self.assertEqual(moves(row, history), played(row, history)[1])

    def test_empty_history(self):
        for row in [(7,), (1, 2), ROW, TWELVE]:
            self.assertEqual(moves(row, []), [])

    def test_one_gap(self):
        self.assertEqual(moves((1, 2), [0]), [(0, 1)])
        self.assertEqual(moves((2, 1), [0]), [(1, 0)])
        self.assertEqual(moves(ROW, [1]), [(2, 1)])

    def test_full_histories(self):
        self.assertEqual(moves(ROW, [1, 2, 0]), [(2, 1), (3, 1), (0, 1)])
        self.assertEqual(moves((1, 2, 3), [1, 0]), [(1, 2), (0, 2)])
        self.assertEqual(moves((3, 2, 1), [1, 0]), [(2, 1), (1, 0)])
        self.assertEqual(moves(TWELVE, list(range(11))), [(0, 1)] + [(k, 1) for k in range(2, 12)])

    def test_every_order_of_the_gaps_is_possible(self):
        for row in small_rows():
            biggest = row.index(max(row))
            others = [place for place in range(len(row)) if place != biggest]
            for history in itertools.permutations(range(len(row) - 1)):
                made = moves(row, list(history))
                self.assertEqual(sorted(one for one, _ in made), others)
                self.assertTrue(all(row[one] < row[other] for one, other in made))

    def test_list_of_pairs(self):
        for row, history in long_cases():
            made = moves(row, history)
            self.assertIs(type(made), list)
            self.assertEqual(len(made), len(history))
            self.assertEqual({type(pair) for pair in made} | {tuple}, {tuple})

    def test_moves_of_the_first_gaps_stay_the_same(self):
        for row, history in long_cases():
            for many in range(len(history)):
                self.assertEqual(moves(row, history[:many]), moves(row, history)[:many])


class ArgumentsTest(unittest.TestCase):
    """Point 2, of the functions that return lists."""

    def test_lists_for_tuples_and_tuples_for_lists(self):
        for function in [outer_boxes, moves]:
            for row, history in long_cases():
                wanted = function(row, history)
                self.assertEqual(function(list(row), history), wanted)
                self.assertEqual(function(row, tuple(history)), wanted)
                self.assertEqual(function(list(row), tuple(history)), wanted)
                self.assertEqual(function(history=tuple(history), row=list(row)), wanted)

    def test_arguments_do_not_change(self):
        for function in [outer_boxes, moves]:
            for row, history in long_cases():
                given_row, given_history = list(row), list(history)
                function(given_row, given_history)
                self.assertEqual((given_row, given_history), (list(row), history))

    def test_changed_result_does_not_influence_the_next(self):
        for function in [outer_boxes, moves]:
            for row, history in [((7,), []), (ROW, []), (ROW, [2, 0]), (ROW, [2, 0, 1]), (TWELVE, [3, 2, 9])]:
                wanted = list(function(row, history))
                found = function(row, history)
                found.append((9, 9))
                found.reverse()
                self.assertEqual(function(row, history), wanted)
                found.clear()
                self.assertEqual(function(row, history), wanted)

    def test_changed_arguments_do_not_change_the_result(self):
        for function in [outer_boxes, moves]:
            row, history = list(ROW), [2, 0]
            found = function(row, history)
            wanted = list(found)
            row.reverse()
            history.append(1)
            self.assertEqual(found, wanted)

    def test_results_may_be_passed_in_again(self):
        row = tuple(range(30, 0, -1))
        history = [gap for _, gap, _ in outer_boxes(row, [])][:-1]
        self.assertIs(is_history(row, history), True)
        self.assertEqual(moves(row, history), [(k + 1, 0) for k in range(29)])


if __name__ == "__main__":
    unittest.main()
