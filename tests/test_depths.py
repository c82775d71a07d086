"""Depths (points 1, 2 and 11)."""

import inspect
import unittest

from cases import (HUGE, LONG_ROWS, ROW, TWELVE, boxes_around, check_arguments, check_error, check_fresh, histories_of,
                   mixed, nesting_of, no_places, repr_of, small_rows)
from putinside import depths
from putinside.depths import deep_history, fewest_moves, greatest_depth
from putinside.errors import NoBox

WORDS = {
    "greatest_depth": ["row", "place"],
    "deep_history": ["row", "place"],
    "fewest_moves": ["row", "one", "other"],
}

LONGER = LONG_ROWS + [(1, 7, 2, 8, 3, 9, 4, 10, 5, 11, 6, 12), (12, 10, 8, 6, 4, 2, 1, 3, 5, 7, 9, 11),
                      (1, 2, 3, 4, 5, 12, 11, 10, 9, 8, 7, 6), (6, 12, 5, 11, 4, 10, 3, 9, 2, 8, 1, 7)]


def stretches(row):
    """All stretches (first, last), the shorter ones first."""
    for many in range(len(row)):
        for first in range(len(row) - many):
            yield first, first + many


def depth_by_stretches(row, place):
    """The greatest depth in the whole row, from the greatest depths in the stretches around the box."""
    found = {}
    for first, last in stretches(row):
        if not first <= place <= last:
            continue
        depths_here = [0]
        for gap in range(first, last):
            left, right = row[first:gap + 1], row[gap + 1:last + 1]
            if place <= gap:
                depths_here.append(found[first, gap] + (max(left) < max(right)))
            else:
                depths_here.append(found[gap + 1, last] + (max(right) < max(left)))
        found[first, last] = max(depths_here)
    return found[0, len(row) - 1]


def moves_by_stretches(row, one, other):
    """The fewest moves: a box is around all others of a stretch exactly if it is the biggest one there."""
    if one == other:
        return None
    found = [last - first for first, last in stretches(row)
             if first <= min(one, other) and max(one, other) <= last and max(row[first:last + 1]) == row[other]]
    return min(found, default=None)


class InterfaceTest(unittest.TestCase):
    def test_names_and_parameters(self):
        for name, words in WORDS.items():
            with self.subTest(name):
                self.assertEqual(list(inspect.signature(getattr(depths, name)).parameters), words)
                self.assertEqual(getattr(depths, name).__module__, "putinside.depths")

    def test_examples_of_the_document(self):
        self.assertEqual(greatest_depth(ROW, 2), 2)
        self.assertEqual(greatest_depth(ROW, 1), 0)
        self.assertEqual(fewest_moves(ROW, 0, 1), 1)
        self.assertIs(fewest_moves(ROW, 2, 0), None)


class DepthsTest(unittest.TestCase):
    def check_deep_history(self, row, place, depth):
        history = deep_history(row, place)
        self.assertIs(type(history), list)
        self.assertEqual(sorted(history), list(range(len(row) - 1)))
        self.assertEqual(len(boxes_around(nesting_of(row, history), place)), depth)
        self.assertEqual(repr_of(deep_history(row, place)), repr_of(history))

    def test_small_rows_against_all_histories(self):
        for row in small_rows():
            nestings = {nesting_of(row, history) for history in histories_of(row)}
            for place in range(len(row)):
                wanted = max(len(boxes_around(nesting, place)) for nesting in nestings)
                self.assertEqual(repr_of(greatest_depth(row, place)), repr_of(wanted))
                self.check_deep_history(row, place, wanted)

    def test_longer_rows(self):
        for row in LONGER + [tuple(size + 1 for size in mixed(12, by)) for by in range(2, 12)]:
            for place in range(len(row)):
                wanted = depth_by_stretches(row, place)
                self.assertEqual(greatest_depth(row, place), wanted)
                self.check_deep_history(row, place, wanted)

    def test_boxes_that_are_in_no_other(self):
        for row in LONGER:
            self.assertEqual(greatest_depth(row, row.index(max(row))), 0)

    def test_both_sides_in_turn(self):
        row = (12, 10, 8, 6, 4, 2, 1, 3, 5, 7, 9, 11)
        self.assertEqual(greatest_depth(row, 6), 11)
        nesting = nesting_of(row, deep_history(row, 6))
        self.assertEqual(boxes_around(nesting, 6), [5, 7, 4, 8, 3, 9, 2, 10, 1, 11, 0])

    def test_one_box(self):
        self.assertEqual(greatest_depth((7,), 0), 0)
        self.assertEqual(deep_history((7,), 0), [])
        self.assertIs(fewest_moves((7,), 0, 0), None)


class FewestMovesTest(unittest.TestCase):
    def test_small_rows_against_all_beginnings(self):
        for row in small_rows():
            lengths = {}
            for history in histories_of(row):
                nesting = nesting_of(row, history)
                for one in range(len(row)):
                    for other in boxes_around(nesting, one):
                        lengths[one, other] = min(len(history), lengths.get((one, other), len(row)))
            for one in range(len(row)):
                for other in range(len(row)):
                    self.assertEqual(repr_of(fewest_moves(row, one, other)), repr_of(lengths.get((one, other))))

    def test_longer_rows(self):
        for row in LONGER:
            for one in range(len(row)):
                for other in range(len(row)):
                    self.assertEqual(fewest_moves(row, one, other), moves_by_stretches(row, one, other))

    def test_the_same_box(self):
        for row in LONGER:
            for place in range(len(row)):
                self.assertIs(fewest_moves(row, place, place), None)

    def test_never_in_it(self):
        self.assertIs(fewest_moves((1, 2), 1, 0), None)
        self.assertIs(fewest_moves(ROW, 0, 3), None)
        self.assertIs(fewest_moves(ROW, 0, 2), None)
        self.assertIs(fewest_moves((1, 3, 2), 0, 2), None)


class ErrorsTest(unittest.TestCase):
    def test_no_such_box(self):
        for row in [(7,), (1, 2), ROW, TWELVE]:
            for place in no_places(row):
                if not 0 <= place < len(row):
                    check_error(self, NoBox, {"place": place}, greatest_depth, row, place)
                    check_error(self, NoBox, {"place": place}, deep_history, row, place)
                    check_error(self, NoBox, {"place": place}, fewest_moves, row, place, 0)
                    check_error(self, NoBox, {"place": place}, fewest_moves, row, 0, place)
                    check_error(self, NoBox, {"place": place}, fewest_moves, row, place, place)

    def test_that_of_one_before_that_of_other(self):
        for one, other in [(4, 5), (5, 4), (-1, 4), (4, -1), (-1, -2), (-2, -1), (HUGE, -HUGE), (-HUGE, HUGE)]:
            check_error(self, NoBox, {"place": one}, fewest_moves, ROW, one, other)


class ArgumentsTest(unittest.TestCase):
    """Point 2."""

    def test_kinds_and_names(self):
        calls = [("greatest_depth", [ROW, 2]), ("deep_history", [ROW, 2]), ("deep_history", [(7,), 0]),
                 ("fewest_moves", [ROW, 0, 1]), ("fewest_moves", [ROW, 2, 0])]
        self.assertEqual({name for name, _ in calls}, set(WORDS))
        for name, values in calls:
            with self.subTest(name):
                check_arguments(self, getattr(depths, name), WORDS[name], values)

    def test_changed_results(self):
        for row, place in [(ROW, 2), (ROW, 0), ((7,), 0), (TWELVE, 6)]:
            check_fresh(self, deep_history, row, place)

    def test_far_beyond_the_bounds(self):
        row = tuple(range(1, 401))
        self.assertEqual(greatest_depth(row, 0), 399)
        self.assertEqual(deep_history(row, 0), list(range(399)))
        self.assertEqual(fewest_moves(row, 0, 399), 399)


if __name__ == "__main__":
    unittest.main()
