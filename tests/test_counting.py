"""All nestings of a row (points 1, 2 and 8)."""

import inspect
import itertools
import math
import unittest

from cases import (HUGE, LONG_ROWS, ROW, TWELVE, check_arguments, check_error, check_fresh, full_by_histories,
                   histories_of, is_full, mixed, nesting_of, no_places, parts_of, rank, repr_of, small_rows)
from putinside import counting
from putinside.counting import (all_nestings, count_nestings, count_outer, count_with, nesting_at,
                                nesting_number)
from putinside.errors import NoNumber, NotFull, TooMany
from putinside.limits import MOST_LISTED
from putinside.nestings import holders, is_nesting

WORDS = {
    "count_nestings": ["row"],
    "count_with": ["row", "claim"],
    "count_outer": ["row", "many"],
    "nesting_at": ["row", "number"],
    "nesting_number": ["row", "nesting"],
    "all_nestings": ["row"],
}

RISING = tuple(range(1, 13))
FALLING = RISING[::-1]
ZIGZAG = (1, 7, 2, 8, 3, 9, 4, 10, 5, 11, 6, 12)
MIDDLE = (1, 2, 3, 4, 5, 12, 11, 10, 9, 8, 7, 6)
VALLEY = (12, 10, 8, 6, 4, 2, 1, 3, 5, 7, 9, 11)
TWELVES = [RISING, FALLING, ZIGZAG, MIDDLE, VALLEY, TWELVE]


def catalan(many):
    """How many binary trees have so many nodes."""
    found = [1]
    for last in range(many):
        found.append(sum(found[at] * found[last - at] for at in range(last + 1)))
    return found[many]


def agrees(claim, nesting):
    for said, above in zip(claim, nesting):
        if said is not None and said != above:
            return False
    return True


def counts_of_stretches(row):
    """How many full nestings and how many nestings at all the row has, from all its stretches."""
    every = {(at, at): 1 for at in range(len(row) + 1)}
    full = {}
    for many in range(1, len(row) + 1):
        for first in range(len(row) - many + 1):
            behind = first + many
            top = row.index(max(row[first:behind]))
            full[first, behind] = every[first, top] * every[top + 1, behind]
            every[first, behind] = sum(full[first, middle] * every[middle, behind]
                                       for middle in range(first + 1, behind + 1))
    return full[0, len(row)], every[0, len(row)]


def samples(many):
    return sorted({0, 1, 2, many // 7, many // 3, many // 2, many * 2 // 3, many - 3, many - 2, many - 1}
                  & set(range(many)))


class InterfaceTest(unittest.TestCase):
    def test_names_and_parameters(self):
        for name, words in WORDS.items():
            with self.subTest(name):
                self.assertEqual(list(inspect.signature(getattr(counting, name)).parameters), words)
                self.assertEqual(getattr(counting, name).__module__, "putinside.counting")

    def test_examples_of_the_document(self):
        self.assertEqual(count_nestings(ROW), 2)
        self.assertEqual(count_nestings((1, 2, 3, 4)), 5)
        self.assertEqual(count_with((1, 2, 3, 4), (3, None, None, None)), 2)
        self.assertEqual(count_outer(ROW, 4), 1)
        self.assertEqual(nesting_at(ROW, 1), (1, None, 3, 1))
        self.assertEqual(nesting_number(ROW, (1, None, 1, 1)), 0)
        self.assertEqual(all_nestings((1, 2, 3)), [(1, 2, None), (2, 2, None)])
        check_error(self, NotFull, {"many": 3}, nesting_number, ROW, (1, None, None, None))


class SmallRowsTest(unittest.TestCase):
    """All functions against all histories of small rows."""

    def test_counts_numbers_and_lists(self):
        for row in small_rows():
            wanted = full_by_histories(row)
            self.assertEqual(count_nestings(row), len(wanted))
            self.assertEqual(repr_of(all_nestings(row)), repr_of(wanted))
            for number, nesting in enumerate(wanted):
                self.assertEqual(repr_of(nesting_at(row, number)), repr_of(nesting))
                self.assertEqual(nesting_number(row, nesting), number)

    def test_count_outer(self):
        for row in small_rows():
            nestings = {nesting_of(row, history) for history in histories_of(row)}
            for many in range(-2, len(row) + 3):
                wanted = len([nesting for nesting in nestings if nesting.count(None) == many])
                self.assertEqual(count_outer(row, many), wanted)

    def test_count_with_every_claim(self):
        for row in small_rows():
            if len(row) <= 4 or row in [(1, 2, 3, 4, 5), (2, 3, 5, 4, 1), (4, 1, 3, 2, 5)]:
                full = full_by_histories(row)
                places = range(len(row))
                entries = [[None] + [other for other in places if other != place] for place in places]
                for claim in itertools.product(*entries):
                    wanted = len([nesting for nesting in full if agrees(claim, nesting)])
                    self.assertEqual(count_with(row, claim), wanted)

    def test_rows_of_six(self):
        for row in [(2, 5, 1, 6, 3, 4), (6, 1, 5, 2, 4, 3), (3, 1, 4, 6, 2, 5), (1, 2, 3, 4, 5, 6)]:
            wanted = full_by_histories(row)
            self.assertEqual(all_nestings(row), wanted)
            self.assertEqual([nesting_at(row, number) for number in range(len(wanted))], wanted)

    def test_one_box_and_two_boxes(self):
        self.assertEqual(count_nestings((7,)), 1)
        self.assertEqual(all_nestings((7,)), [(None,)])
        self.assertEqual(nesting_at((7,), 0), (None,))
        self.assertEqual(nesting_number((7,), (None,)), 0)
        self.assertEqual(count_with((7,), (None,)), 1)
        self.assertEqual([count_outer((7,), many) for many in range(-1, 3)], [0, 0, 1, 0])
        self.assertEqual(all_nestings((1, 2)), [(1, None)])
        self.assertEqual(all_nestings((2, 1)), [(None, 0)])


class TwelveBoxesTest(unittest.TestCase):
    def test_counts(self):
        self.assertEqual(count_nestings(RISING), catalan(11))
        self.assertEqual(count_nestings(FALLING), catalan(11))
        self.assertEqual(count_nestings(MIDDLE), catalan(5) * catalan(6))
        for row in TWELVES + LONG_ROWS:
            full, every = counts_of_stretches(row)
            self.assertEqual(count_nestings(row), full)
            self.assertEqual(count_with(row, (None,) * len(row)), full)
            self.assertEqual(count_outer(row, 1), full)
            self.assertEqual(sum(count_outer(row, many) for many in range(len(row) + 1)), every)
            self.assertEqual(count_outer(row, len(row)), 1)

    def test_outer_boxes_of_rising_rows(self):
        # These are the forests of so many ordered trees with twelve nodes: Catalan's triangle.
        for many in range(1, 13):
            self.assertEqual(count_outer(RISING, many), many * math.comb(24 - many, 12) // (24 - many))

    def test_numbers_against_all_nestings(self):
        for row in [FALLING, ZIGZAG, MIDDLE, TWELVE]:
            full = sorted(parts_of(row)[1], key=rank)
            self.assertEqual(count_nestings(row), len(full))
            for number in samples(len(full)):
                self.assertEqual(nesting_at(row, number), full[number])
                self.assertEqual(nesting_number(row, full[number]), number)

    def test_count_with_against_all_nestings(self):
        for row in [MIDDLE, ZIGZAG, TWELVE]:
            full = parts_of(row)[1]
            for nesting in [full[len(full) // 3], full[len(full) * 3 // 4]]:
                for by in [2, 3, 5, 12]:
                    kept = mixed(12, by)
                    for many in [1, 2, 3, 6, 11, 12]:
                        claim = tuple(above if place in kept[:many] else None for place, above in enumerate(nesting))
                        wanted = len([one for one in full if agrees(claim, one)])
                        self.assertEqual(count_with(row, claim), wanted)

    def test_count_outer_against_all_nestings(self):
        for row in [ZIGZAG, TWELVE]:
            outer = [nesting.count(None) for nesting in parts_of(row)[0]]
            for many in range(-1, 14):
                self.assertEqual(count_outer(row, many), outer.count(many))

    def test_number_and_back(self):
        for row in TWELVES + LONG_ROWS:
            many = count_nestings(row)
            before = None
            for number in samples(many):
                nesting = nesting_at(row, number)
                self.assertIs(is_nesting(row, nesting), True)
                self.assertIs(is_full(nesting), True)
                self.assertEqual(nesting_number(row, nesting), number)
                if before is not None:
                    self.assertLess(before, rank(nesting))
                before = rank(nesting)

    def test_first_and_last_number(self):
        # The least entries are taken wherever they may be.
        self.assertEqual(nesting_at(RISING, 0), tuple(range(1, 12)) + (None,))
        self.assertEqual(nesting_at(RISING, catalan(11) - 1), (11,) * 11 + (None,))
        self.assertEqual(nesting_at(FALLING, 0), (None,) + (0,) * 11)
        self.assertEqual(nesting_at(FALLING, catalan(11) - 1), (None,) + tuple(range(11)))

    def test_one_box_known(self):
        for row in TWELVES:
            for place in range(12):
                counts = []
                for above in range(12):
                    if above != place:
                        claim = (None,) * place + (above,) + (None,) * (11 - place)
                        counts.append(count_with(row, claim))
                        self.assertIs(counts[-1] > 0, above in holders(row, place))
                self.assertEqual(sum(counts), 0 if row[place] == 12 else count_nestings(row))

    def test_all_boxes_known(self):
        for row in TWELVES:
            nesting = nesting_at(row, count_nestings(row) // 2)
            self.assertEqual(count_with(row, nesting), 1)


class ClaimsThatCannotBeTest(unittest.TestCase):
    def test_holder_of_the_biggest_box(self):
        for row in [(1, 2), ROW, TWELVE]:
            top = row.index(max(row))
            for above in range(len(row)):
                if above != top:
                    claim = [None] * len(row)
                    claim[top] = above
                    self.assertEqual(count_with(row, tuple(claim)), 0)

    def test_holder_that_is_not_bigger(self):
        self.assertEqual(count_with(ROW, (2, None, None, None)), 0)
        self.assertEqual(count_with(ROW, (None, None, 0, 2)), 0)

    def test_bigger_box_between(self):
        self.assertEqual(count_with(ROW, (3, None, None, None)), 0)
        self.assertEqual(count_with((1, 2, 3), (2, 0, None)), 0)

    def test_boxes_in_one_another(self):
        self.assertEqual(count_with((1, 2, 3), (1, 0, None)), 0)

    def test_entries_that_cross(self):
        self.assertEqual(count_with((1, 2, 3, 4), (2, 3, None, None)), 0)
        self.assertEqual(count_with((1, 2, 3, 4), (2, None, None, None)), 1)
        self.assertEqual(count_with((1, 2, 3, 4), (None, 3, None, None)), 2)


class ErrorsTest(unittest.TestCase):
    def test_no_such_number(self):
        for row in [(7,), (1, 2), ROW, (1, 2, 3, 4), RISING, ZIGZAG]:
            many = count_nestings(row)
            for number in [-1, -2, -many, many, many + 1, 2 * many, HUGE, -HUGE]:
                check_error(self, NoNumber, {"number": number}, nesting_at, row, number)

    def test_not_full(self):
        for row in [(1, 2), ROW, (4, 1, 3, 2, 5), TWELVE]:
            for gaps in range(len(row) - 1):
                nesting = nesting_of(row, list(range(gaps)))
                check_error(self, NotFull, {"many": len(row) - gaps}, nesting_number, row, nesting)

    def test_too_many(self):
        for row in [RISING, FALLING, ZIGZAG, MIDDLE, TWELVE, tuple(range(1, 9)), tuple(range(1, 41))]:
            many = counts_of_stretches(row)[0]
            self.assertGreater(many, MOST_LISTED)
            check_error(self, TooMany, {"many": many}, all_nestings, row)

    def test_as_many_as_are_listed_and_a_few_more(self):
        row = (6, 3, 9, 10, 2, 5, 1, 8, 7, 4)
        self.assertEqual(count_nestings(row), MOST_LISTED)
        self.assertEqual(all_nestings(row), sorted(parts_of(row)[1], key=rank))
        row = (1, 2, 3, 4, 6, 5, 7, 8)
        self.assertEqual(len(parts_of(row)[1]), 306)
        check_error(self, TooMany, {"many": 306}, all_nestings, row)

    def test_count_outer_takes_any_number(self):
        for row in [(7,), ROW, TWELVE]:
            for many in [0] + no_places(row):
                if not 1 <= many <= len(row):
                    self.assertEqual(count_outer(row, many), 0)


class ArgumentsTest(unittest.TestCase):
    """Point 2."""

    def test_kinds_and_names(self):
        calls = [
            ("count_nestings", [ROW]), ("count_nestings", [(7,)]), ("count_with", [ROW, (1, None, None, None)]),
            ("count_with", [(7,), (None,)]), ("count_outer", [ROW, 2]), ("nesting_at", [ROW, 1]),
            ("nesting_at", [(7,), 0]), ("nesting_number", [ROW, (1, None, 3, 1)]), ("all_nestings", [ROW]),
            ("all_nestings", [(7,)]),
        ]
        self.assertEqual({name for name, _ in calls}, set(WORDS))
        for name, values in calls:
            with self.subTest(name):
                check_arguments(self, getattr(counting, name), WORDS[name], values)

    def test_changed_results(self):
        for row in [ROW, (1, 2, 3, 4, 5, 6), (7,)]:
            check_fresh(self, all_nestings, row)

    def test_changed_arguments(self):
        row = [1, 2, 3]
        found = all_nestings(row)
        row.reverse()
        self.assertEqual(found, [(1, 2, None), (2, 2, None)])

    def test_far_beyond_the_bounds(self):
        self.assertEqual(count_nestings(tuple(range(1, 61))), catalan(59))
        self.assertEqual(count_nestings(tuple(range(400, 0, -1))), catalan(399))
        row = tuple(size + 10 ** 9 for size in range(1, 26))
        self.assertEqual(count_with(row, (None,) * 25), catalan(24))
        nesting = nesting_at(row, catalan(24) // 3)
        self.assertIs(is_nesting(row, nesting), True)
        self.assertEqual(nesting_number(row, nesting), catalan(24) // 3)


if __name__ == "__main__":
    unittest.main()
