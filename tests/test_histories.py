"""Histories of a nesting (points 1, 2 and 6)."""

import inspect
import itertools
import unittest

from cases import (HUGE, ROW, TWELVE, cases_of_every_length, check_arguments, check_fresh, histories_by_nesting,
                   histories_of, long_cases, nesting_of, played, repr_of, small_rows)
from putinside import histories
from putinside.errors import NoBox, NoNumber, Outer, TooMany
from putinside.histories import all_histories, count_histories, gap_of, history_at, history_number, needed
from putinside.limits import MOST_LISTED
from putinside.nestings import nesting_after

WORDS = {
    "gap_of": ["row", "nesting", "place"],
    "needed": ["row", "nesting", "place"],
    "count_histories": ["row", "nesting"],
    "history_at": ["row", "nesting", "number"],
    "history_number": ["row", "history"],
    "all_histories": ["row", "nesting"],
}

NESTED = (1, None, 3, 1)

# The biggest box holds all others directly: two stand on its left side, 23 on its right side.
TWO_SIDES = tuple(range(1, 3)) + (26,) + tuple(range(3, 26))
ON_TWO_SIDES = (2, 2, None) + (2,) * 23


def boxes_put_in(row, history):
    """For each gap of the history, in its order, the box that is put in, from the moves of the heaps."""
    return [one for one, _ in played(row, history)[1]]


def count_by_closing(row, nesting):
    """How many histories lead to the nesting, from the closed gaps on the way, each set of them looked at once."""
    last = len([above for above in nesting if above is not None])
    ways = {(): 1}
    for _ in range(last):
        more = {}
        for closed, many in ways.items():
            for gap in range(len(row) - 1):
                if gap in closed:
                    continue
                one, other = played(row, list(closed) + [gap])[1][-1]
                if nesting[one] == other:
                    key = tuple(sorted(closed + (gap,)))
                    more[key] = more.get(key, 0) + many
        ways = more
    return sum(ways.values())


def longer_cases():
    yield from long_cases()
    yield from cases_of_every_length()


class InterfaceTest(unittest.TestCase):
    def test_names_and_parameters(self):
        for name, words in WORDS.items():
            with self.subTest(name):
                self.assertEqual(list(inspect.signature(getattr(histories, name)).parameters), words)
                self.assertEqual(getattr(histories, name).__module__, "putinside.histories")

    def test_examples_of_the_document(self):
        self.assertEqual(gap_of(ROW, (1, None, 3, 1), 3), 1)
        self.assertEqual(needed(ROW, (1, None, 3, 1), 3), (2,))
        self.assertEqual(needed(ROW, (1, None, 1, 1), 3), (2,))
        self.assertEqual(count_histories(ROW, (1, None, 3, 1)), 3)
        self.assertEqual(all_histories(ROW, (1, None, 3, 1)), [[0, 2, 1], [2, 0, 1], [2, 1, 0]])
        self.assertEqual(history_at(ROW, (1, None, 1, 1), 2), [1, 2, 0])
        self.assertEqual(history_number(ROW, [2, 0, 1]), 1)
        with self.assertRaises(Outer) as caught:
            gap_of(ROW, (1, None, 3, 1), 1)
        self.assertEqual(vars(caught.exception), {"place": 1})


class SmallRowsTest(unittest.TestCase):
    """All functions against all orders of the closed gaps, of every nesting of small rows."""

    def test_all_of_a_nesting(self):
        for row in small_rows():
            for nesting, lead in histories_by_nesting(row).items():
                self.assertEqual(count_histories(row, nesting), len(lead))
                self.assertEqual(repr_of(all_histories(row, nesting)), repr_of(lead))

    def test_numbers(self):
        for row in small_rows():
            for nesting, lead in histories_by_nesting(row).items():
                for number, history in enumerate(lead):
                    self.assertEqual(repr_of(history_at(row, nesting, number)), repr_of(history))
                    self.assertEqual(history_number(row, history), number)
                for number in [-1, -len(lead), len(lead), len(lead) + 1]:
                    with self.assertRaises(NoNumber) as caught:
                        history_at(row, nesting, number)
                    self.assertEqual(vars(caught.exception), {"number": number})

    def test_all_close_the_same_gaps(self):
        for row in small_rows():
            for nesting in histories_by_nesting(row):
                gaps = [gap_of(row, nesting, place) for place in range(len(row)) if nesting[place] is not None]
                for history in all_histories(row, nesting):
                    self.assertEqual(sorted(history), sorted(gaps))

    def test_gap_of(self):
        for row in small_rows():
            for nesting, lead in histories_by_nesting(row).items():
                for history in lead:
                    for gap, place in zip(history, boxes_put_in(row, history)):
                        self.assertEqual(gap_of(row, nesting, place), gap)

    def test_needed(self):
        for row in small_rows():
            for nesting, lead in histories_by_nesting(row).items():
                put_in = [boxes_put_in(row, history) for history in lead]
                for place in put_in[0]:
                    always = [other for other in range(len(row)) if other in put_in[0]
                              and all(boxes.index(other) < boxes.index(place) for boxes in put_in)]
                    self.assertEqual(repr_of(needed(row, nesting, place)), repr_of(tuple(always)))

    def test_rows_of_six_boxes(self):
        for row in [(2, 5, 1, 6, 3, 4), (6, 1, 5, 2, 4, 3), (3, 1, 4, 6, 2, 5)]:
            for nesting, lead in histories_by_nesting(row).items():
                self.assertEqual(all_histories(row, nesting), lead)


class LongerRowsTest(unittest.TestCase):
    def test_gap_of_and_needed(self):
        for row, history in longer_cases():
            nesting = nesting_of(row, history)
            put_in = boxes_put_in(row, history)
            for gap, place in zip(history, put_in):
                self.assertEqual(gap_of(row, nesting, place), gap)
                for other in needed(row, nesting, place):
                    self.assertIn(other, put_in[:put_in.index(place)])

    def test_count_by_closing_gaps(self):
        cases = [(row, history) for row, history in cases_of_every_length() if len(row) <= 8]
        for row, history in cases + [(TWELVE, [3, 2, 4, 1, 5, 0, 6]), (TWELVE, [7, 8, 9, 6, 10])]:
            nesting = nesting_of(row, history)
            self.assertEqual(count_histories(row, nesting), count_by_closing(row, nesting))

    def test_count_by_the_product(self):
        for row, history in longer_cases():
            nesting = nesting_of(row, history)
            wanted = 1
            for many in range(1, len(history) + 1):
                wanted *= many
            for place in range(len(row)):
                if nesting[place] is not None:
                    self.assertEqual(wanted % (len(needed(row, nesting, place)) + 1), 0)
                    wanted //= len(needed(row, nesting, place)) + 1
            self.assertEqual(count_histories(row, nesting), wanted)

    def test_number_and_back(self):
        for row, history in longer_cases():
            nesting = nesting_of(row, history)
            number = history_number(row, history)
            self.assertIs(0 <= number < count_histories(row, nesting), True)
            self.assertEqual(history_at(row, nesting, number), history)

    def test_neighbouring_numbers(self):
        for row, history in longer_cases():
            nesting = nesting_of(row, history)
            many = count_histories(row, nesting)
            for number in {0, 1, many // 3, many // 2, many - 2, many - 1}:
                if 0 <= number < many:
                    found = history_at(row, nesting, number)
                    self.assertEqual(nesting_of(row, found), nesting)
                    self.assertEqual(history_number(row, found), number)
                    if number > 0:
                        self.assertLess(history_at(row, nesting, number - 1), found)

    def test_all_of_twelve_boxes(self):
        for row, history in longer_cases():
            nesting = nesting_of(row, history)
            many = count_histories(row, nesting)
            if many <= 60:
                found = all_histories(row, nesting)
                self.assertEqual(len(found), many)
                self.assertEqual(found, sorted(found))
                self.assertEqual([history_number(row, one) for one in found], list(range(many)))
                self.assertEqual({nesting_of(row, one) for one in found}, {nesting})

    def test_counts_of_all_nestings_of_a_row(self):
        row = (4, 1, 6, 3, 5, 2)
        nestings = histories_by_nesting(row)
        self.assertEqual(sum(count_histories(row, nesting) for nesting in nestings), len(list(histories_of(row))))


class NoGapsTest(unittest.TestCase):
    def test_nothing_is_closed(self):
        for row in [(7,), (2, 1), ROW, TWELVE]:
            nesting = (None,) * len(row)
            self.assertEqual(count_histories(row, nesting), 1)
            self.assertEqual(all_histories(row, nesting), [[]])
            self.assertEqual(history_at(row, nesting, 0), [])
            self.assertEqual(history_number(row, []), 0)
            for number in [1, -1, HUGE]:
                self.assertRaises(NoNumber, history_at, row, nesting, number)

    def test_one_gap(self):
        self.assertEqual(all_histories((1, 2), (1, None)), [[0]])
        self.assertEqual(all_histories(TWELVE, (None,) * 4 + (3,) + (None,) * 7), [[3]])
        self.assertEqual(needed((1, 2), (1, None), 0), ())
        self.assertEqual(gap_of((1, 2), (1, None), 0), 0)
        self.assertEqual(gap_of((2, 1), (None, 0), 1), 0)


class ErrorsTest(unittest.TestCase):
    def test_no_such_box(self):
        for row, nesting in [((7,), (None,)), (ROW, NESTED), (ROW, (None,) * 4)]:
            for function in [gap_of, needed]:
                for place in [-1, -2, -4, -5, len(row), len(row) + 1, 12, HUGE, -HUGE]:
                    with self.assertRaises(NoBox) as caught:
                        function(row, nesting, place)
                    self.assertEqual(vars(caught.exception), {"place": place})

    def test_outer_boxes(self):
        for row, history in longer_cases():
            nesting = nesting_of(row, history)
            for function in [gap_of, needed]:
                for place in range(len(row)):
                    if nesting[place] is None:
                        with self.assertRaises(Outer) as caught:
                            function(row, nesting, place)
                        self.assertEqual(vars(caught.exception), {"place": place})

    def test_no_such_number(self):
        for row, nesting, many in [(ROW, NESTED, 3), ((7,), (None,), 1), (TWO_SIDES, ON_TWO_SIDES, 300)]:
            history_at(row, nesting, many - 1)
            for number in [-1, -2, -many, many, many + 1, HUGE, -HUGE]:
                with self.assertRaises(NoNumber) as caught:
                    history_at(row, nesting, number)
                self.assertEqual(vars(caught.exception), {"number": number})

    def check_too_many(self, row, nesting, many):
        self.assertEqual(count_histories(row, nesting), many)
        with self.assertRaises(TooMany) as caught:
            all_histories(row, nesting)
        self.assertEqual(vars(caught.exception), {"many": many})

    def test_as_many_as_are_listed(self):
        self.assertEqual(count_histories(TWO_SIDES, ON_TWO_SIDES), MOST_LISTED)
        found = all_histories(TWO_SIDES, ON_TWO_SIDES)
        wanted = []
        for at in itertools.combinations(range(25), 2):
            history = list(range(2, 25))
            history.insert(at[0], 1)
            history.insert(at[1], 0)
            wanted.append(history)
        self.assertEqual(found, sorted(wanted))

    def test_one_more_than_are_listed(self):
        row = (1, 1000) + tuple(range(2, 302))
        self.check_too_many(row, (1, None) + (1,) * 300, MOST_LISTED + 1)

    def test_too_many_of_twelve_boxes(self):
        row = (1, 2, 3, 4, 12, 5, 6, 7, 8, 9, 10, 11)
        self.check_too_many(row, (4, 4, 4, 4, None) + (4,) * 7, 330)
        row = (1, 7, 2, 8, 3, 9, 4, 10, 5, 11, 6, 12)
        self.check_too_many(row, (1, None, 3, None, 5, None, 7, None, 9, None, 11, None), 720)


class ArgumentsTest(unittest.TestCase):
    """Point 2."""

    def test_kinds_and_names(self):
        calls = [
            ("gap_of", [ROW, NESTED, 3]), ("needed", [ROW, NESTED, 3]), ("needed", [ROW, NESTED, 0]),
            ("count_histories", [ROW, NESTED]), ("count_histories", [(7,), (None,)]),
            ("history_at", [ROW, NESTED, 2]), ("history_at", [(7,), (None,), 0]),
            ("history_number", [ROW, [2, 1, 0]]), ("history_number", [(7,), []]),
            ("all_histories", [ROW, NESTED]), ("all_histories", [(7,), (None,)]),
        ]
        self.assertEqual({name for name, _ in calls}, set(WORDS))
        for name, values in calls:
            with self.subTest(name):
                check_arguments(self, getattr(histories, name), WORDS[name], values)

    def test_changed_results(self):
        for row, nesting in [(ROW, NESTED), (ROW, (None,) * 4), ((7,), (None,))]:
            check_fresh(self, all_histories, row, nesting)
            check_fresh(self, history_at, row, nesting, 0)
        check_fresh(self, history_at, TWO_SIDES, ON_TWO_SIDES, 150)

    def test_changed_arguments(self):
        nesting = list(NESTED)
        found = all_histories(ROW, nesting)
        nesting[2] = 1
        self.assertEqual(found, [[0, 2, 1], [2, 0, 1], [2, 1, 0]])

    def test_far_beyond_the_bounds(self):
        many = 400
        row = tuple(range(1, many + 1))
        chain = list(range(many - 1))
        nesting = nesting_after(row, chain)
        self.assertEqual(count_histories(row, nesting), 1)
        self.assertEqual(all_histories(row, nesting), [chain])
        self.assertEqual(needed(row, nesting, many - 2), tuple(range(many - 2)))
        pairs = list(range(0, many, 2))
        nesting = nesting_after(row, pairs)
        self.assertEqual(history_at(row, nesting, 0), pairs)
        self.assertEqual(history_number(row, pairs[::-1]), count_histories(row, nesting) - 1)


if __name__ == "__main__":
    unittest.main()
