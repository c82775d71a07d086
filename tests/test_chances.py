"""Chances (points 1, 2 and 9)."""

import fractions
import inspect
import math
import unittest

from cases import (HUGE, LONG_ROWS, ROW, TWELVE, boxes_around, check_arguments, check_error, full_histories, mixed,
                   nesting_of, no_places, played, repr_of, small_rows)
from putinside import chances
from putinside.chances import around_chance, holder_chance, mean_depth, mean_inside, together_chance
from putinside.errors import NoBox
from putinside.nestings import holders

WORDS = {
    "holder_chance": ["row", "one", "other"],
    "around_chance": ["row", "one", "other"],
    "mean_depth": ["row", "place"],
    "mean_inside": ["row", "place"],
    "together_chance": ["row", "one", "other", "many"],
}

RISING = tuple(range(1, 13))
ZIGZAG = (1, 7, 2, 8, 3, 9, 4, 10, 5, 11, 6, 12)
MIDDLE = (1, 2, 3, 4, 5, 12, 11, 10, 9, 8, 7, 6)
TWELVES = LONG_ROWS + [ZIGZAG, MIDDLE, ZIGZAG[::-1]]
ROWS_OF_SIX = [(2, 5, 1, 6, 3, 4), (6, 1, 5, 2, 4, 3), (3, 1, 4, 6, 2, 5), (1, 2, 3, 4, 5, 6)]


def pair(value):
    """The value as a pair in lowest terms with a denominator from 1."""
    value = fractions.Fraction(value)
    return (value.numerator, value.denominator)


def chances_of_stretches(row):
    """For each two boxes the chances that one is directly in the other, and that it is in it at all.

    They come from shorter stretches: each gap is equally likely to be the last one of a stretch.
    """
    direct, around = {}, {}
    for many in range(1, len(row) + 1):
        for first in range(len(row) - many + 1):
            last = first + many - 1
            held, over = {}, {}
            for gap in range(first, last):
                tops = [row.index(max(row[first:gap + 1])), row.index(max(row[gap + 1:last + 1]))]
                small, big = sorted(tops, key=lambda place: row[place])
                under = range(first, gap + 1) if small <= gap else range(gap + 1, last + 1)
                for part in [(first, gap), (gap + 1, last)]:
                    for found, parts in [(held, direct), (over, around)]:
                        for boxes, chance in parts[part].items():
                            found[boxes] = found.get(boxes, 0) + chance / (last - first)
                share = fractions.Fraction(1, last - first)
                held[small, big] = held.get((small, big), 0) + share
                for place in under:
                    over[place, big] = over.get((place, big), 0) + share
            direct[first, last], around[first, last] = held, over
    return direct[0, len(row) - 1], around[0, len(row) - 1]


class InterfaceTest(unittest.TestCase):
    def test_names_and_parameters(self):
        for name, words in WORDS.items():
            with self.subTest(name):
                self.assertEqual(list(inspect.signature(getattr(chances, name)).parameters), words)
                self.assertEqual(getattr(chances, name).__module__, "putinside.chances")

    def test_examples_of_the_document(self):
        self.assertEqual(holder_chance(ROW, 2, 3), (1, 2))
        self.assertEqual(holder_chance((1, 2, 3), 0, 2), (1, 2))
        self.assertEqual(holder_chance(ROW, 0, 3), (0, 1))
        self.assertEqual(around_chance(ROW, 2, 1), (1, 1))
        self.assertEqual(mean_depth(ROW, 2), (3, 2))
        self.assertEqual(mean_inside(ROW, 3), (1, 2))
        self.assertEqual(together_chance(ROW, 0, 2, 2), (1, 3))


class SmallRowsTest(unittest.TestCase):
    """All functions against all full histories of small rows."""

    def check_row(self, row):
        histories = full_histories(row)
        all_of_them = len(histories)
        nestings = [nesting_of(row, history) for history in histories]
        around = [[boxes_around(nesting, place) for place in range(len(row))] for nesting in nestings]
        for place in range(len(row)):
            depths = sum(len(over[place]) for over in around)
            self.assertEqual(repr_of(mean_depth(row, place)), repr_of(pair(fractions.Fraction(depths, all_of_them))))
            held = sum(place in boxes for over in around for boxes in over)
            self.assertEqual(repr_of(mean_inside(row, place)), repr_of(pair(fractions.Fraction(held, all_of_them))))
            for other in range(len(row)):
                direct = sum(nesting[place] == other for nesting in nestings)
                wanted = pair(fractions.Fraction(direct, all_of_them))
                self.assertEqual(repr_of(holder_chance(row, place, other)), repr_of(wanted))
                somehow = sum(other in over[place] for over in around)
                wanted = pair(fractions.Fraction(somehow, all_of_them))
                self.assertEqual(repr_of(around_chance(row, place, other)), repr_of(wanted))

    def test_holders_and_depths(self):
        for row in list(small_rows()) + ROWS_OF_SIX:
            self.check_row(row)

    def test_together(self):
        for row in small_rows():
            histories = full_histories(row)
            for many in range(len(row)):
                heaps = [played(row, history[:many])[0] for history in histories]
                for one in range(len(row)):
                    for other in range(len(row)):
                        found = 0
                        for outer in heaps:
                            for first, last, _ in outer:
                                found += first <= one <= last and first <= other <= last
                        wanted = pair(fractions.Fraction(found, len(histories)))
                        self.assertEqual(repr_of(together_chance(row, one, other, many)), repr_of(wanted))


class TwelveBoxesTest(unittest.TestCase):
    def test_against_chances_of_shorter_stretches(self):
        for row in TWELVES:
            direct, around = chances_of_stretches(row)
            for one in range(len(row)):
                for other in range(len(row)):
                    self.assertEqual(holder_chance(row, one, other), pair(direct.get((one, other), 0)))
                    self.assertEqual(around_chance(row, one, other), pair(around.get((one, other), 0)))

    def test_means(self):
        for row in TWELVES:
            _, around = chances_of_stretches(row)
            for place in range(len(row)):
                depth = sum(chance for (one, _), chance in around.items() if one == place)
                held = sum(chance for (_, other), chance in around.items() if other == place)
                self.assertEqual(mean_depth(row, place), pair(depth))
                self.assertEqual(mean_inside(row, place), pair(held))

    def test_some_holder_is_certain(self):
        for row in TWELVES:
            for place in range(len(row)):
                found = [fractions.Fraction(*holder_chance(row, place, other)) for other in range(len(row))]
                self.assertEqual(sum(found), 0 if row[place] == max(row) else 1)
                self.assertEqual([other for other in range(len(row)) if found[other]], holders(row, place))

    def test_the_biggest_box_is_around_all_others(self):
        for row in TWELVES:
            biggest = row.index(max(row))
            self.assertEqual(mean_depth(row, biggest), (0, 1))
            self.assertEqual(mean_inside(row, biggest), (len(row) - 1, 1))
            for place in range(len(row)):
                if place != biggest:
                    self.assertEqual(around_chance(row, place, biggest), (1, 1))
                    self.assertEqual(around_chance(row, biggest, place), (0, 1))

    def test_together_by_choosing_gaps(self):
        for row in [RISING, TWELVE]:
            for one in range(12):
                for other in range(12):
                    apart = abs(one - other)
                    for many in range(12):
                        chosen = math.comb(11 - apart, many - apart) if many >= apart else 0
                        wanted = pair(fractions.Fraction(chosen, math.comb(11, many)))
                        self.assertEqual(together_chance(row, one, other, many), wanted)

    def test_before_the_first_and_after_the_last_move(self):
        for row in TWELVES:
            last = len(row) - 1
            for one in range(len(row)):
                for other in range(len(row)):
                    self.assertEqual(together_chance(row, one, other, 0), (1, 1) if one == other else (0, 1))
                    self.assertEqual(together_chance(row, one, other, last), (1, 1))


class LowestTermsTest(unittest.TestCase):
    def test_all_fractions(self):
        for row in list(small_rows()) + TWELVES:
            for one in range(len(row)):
                found = [mean_depth(row, one), mean_inside(row, one)]
                for other in range(len(row)):
                    found += [holder_chance(row, one, other), around_chance(row, one, other),
                              together_chance(row, one, other, len(row) // 2)]
                for fraction in found:
                    self.assertIs(type(fraction), tuple)
                    self.assertEqual([type(part) for part in fraction], [int, int])
                    self.assertGreaterEqual(fraction[0], 0)
                    self.assertGreaterEqual(fraction[1], 1)
                    self.assertEqual(math.gcd(*fraction), 1)


class SameBoxTest(unittest.TestCase):
    def test_the_same_box(self):
        for row in list(small_rows()) + TWELVES:
            for place in range(len(row)):
                self.assertEqual(holder_chance(row, place, place), (0, 1))
                self.assertEqual(around_chance(row, place, place), (0, 1))
                for many in range(len(row)):
                    self.assertEqual(together_chance(row, place, place, many), (1, 1))

    def test_one_box(self):
        self.assertEqual(holder_chance((7,), 0, 0), (0, 1))
        self.assertEqual(around_chance((7,), 0, 0), (0, 1))
        self.assertEqual(mean_depth((7,), 0), (0, 1))
        self.assertEqual(mean_inside((7,), 0), (0, 1))
        self.assertEqual(together_chance((7,), 0, 0, 0), (1, 1))


class ErrorsTest(unittest.TestCase):
    def test_no_such_box(self):
        for row in [(7,), (1, 2), ROW, TWELVE]:
            for place in no_places(row):
                if not 0 <= place < len(row):
                    for function in [mean_depth, mean_inside]:
                        check_error(self, NoBox, {"place": place}, function, row, place)
                    for function in [holder_chance, around_chance]:
                        check_error(self, NoBox, {"place": place}, function, row, place, 0)
                        check_error(self, NoBox, {"place": place}, function, row, 0, place)
                        check_error(self, NoBox, {"place": place}, function, row, place, place)
                    for many in [0, len(row) - 1]:
                        check_error(self, NoBox, {"place": place}, together_chance, row, place, 0, many)
                        check_error(self, NoBox, {"place": place}, together_chance, row, 0, place, many)
                        check_error(self, NoBox, {"place": place}, together_chance, row, place, place, many)

    def test_that_of_one_before_that_of_other(self):
        for one, other in [(4, 5), (5, 4), (-1, 4), (4, -1), (-1, -2), (-2, -1), (HUGE, -HUGE), (-HUGE, HUGE)]:
            for function in [holder_chance, around_chance]:
                check_error(self, NoBox, {"place": one}, function, ROW, one, other)
            check_error(self, NoBox, {"place": one}, together_chance, ROW, one, other, 2)

    def test_no_error_somewhat_beyond_the_moves(self):
        for one in range(4):
            for other in range(4):
                for many in [4, 5, 12]:
                    self.assertEqual(together_chance(ROW, one, other, many), (1, 1))
                for many in [-1, -2, -12]:
                    self.assertEqual(together_chance(ROW, one, other, many), together_chance(ROW, one, other, 0))


class ArgumentsTest(unittest.TestCase):
    """Point 2."""

    def test_kinds_and_names(self):
        calls = [
            ("holder_chance", [ROW, 2, 3]), ("holder_chance", [ROW, 3, 2]), ("holder_chance", [ROW, 2, 1]),
            ("around_chance", [ROW, 2, 1]), ("around_chance", [ROW, 2, 3]), ("mean_depth", [ROW, 2]),
            ("mean_inside", [ROW, 3]), ("together_chance", [ROW, 0, 2, 2]), ("together_chance", [ROW, 2, 0, 2]),
        ]
        self.assertEqual({name for name, _ in calls}, set(WORDS))
        for name, values in calls:
            with self.subTest(name):
                check_arguments(self, getattr(chances, name), WORDS[name], values)

    def test_far_beyond_the_bounds(self):
        row = tuple(size + 10 ** 9 for size in range(1, 41))
        self.assertEqual(holder_chance(row, 0, 39), (1, 39))
        self.assertEqual(around_chance(row, 38, 39), (1, 1))
        depth = sum(fractions.Fraction(1, many) for many in range(1, 40))
        self.assertEqual(mean_depth(row, 0), pair(depth))
        for by in range(1, 5):
            other = tuple(size * 41 + by for size in mixed(12, by)) + row
            self.assertEqual(mean_inside(other, len(other) - 1), (len(other) - 1, 1))


if __name__ == "__main__":
    unittest.main()
