"""Histories that lead to the same nesting (points 1, 2 and 7)."""

import inspect
import itertools
import unittest

from cases import (HUGE, NO_NUMBERS, ROW, TWELVE, cases_of_every_length, check_arguments, check_fresh,
                   histories_by_nesting, histories_of, long_cases, nested, nesting_of, repr_of, small_rows)
from putinside import same
from putinside.errors import Blocked, NoIndex, OtherNesting
from putinside.histories import history_at
from putinside.same import (exchange_plan, exchanged, exchanges_apart, free_exchanges, same_nesting,
                            shows_exchange_plan)

WORDS = {
    "same_nesting": ["row", "one", "other"],
    "free_exchanges": ["row", "history"],
    "exchanged": ["row", "history", "index"],
    "exchanges_apart": ["row", "one", "other"],
    "exchange_plan": ["row", "one", "other"],
    "shows_exchange_plan": ["row", "one", "other", "thing"],
}


def swapped(history, index):
    return history[:index] + [history[index + 1], history[index]] + history[index + 2:]


def free_by_trying(row, history):
    """The indices of free exchanges, from the nesting after each exchange."""
    nesting = nesting_of(row, history)
    return [index for index in range(len(history) - 1) if nesting_of(row, swapped(history, index)) == nesting]


def distances(row, history):
    """For each history that free exchanges lead to, as a tuple, the fewest of them, from a search."""
    found = {tuple(history): 0}
    waiting = [history]
    for at in waiting:
        for index in free_by_trying(row, at):
            after = swapped(at, index)
            if tuple(after) not in found:
                found[tuple(after)] = found[tuple(at)] + 1
                waiting.append(after)
    return found


def carried_out(row, history, plan):
    """The history after the exchanges of the plan, None if one of them is not free in its turn."""
    for index in plan:
        if index not in free_by_trying(row, history):
            return None
        history = swapped(history, index)
    return history


def classes(row):
    return histories_by_nesting(row).values()


def longer_pairs():
    """Pairs of histories of longer rows that lead to the same nesting."""
    for row, history in itertools.chain(long_cases(), cases_of_every_length()):
        nesting = nesting_of(row, history)
        first = history_at(row, nesting, 0)
        yield row, history, first
        yield row, first, history
        falling = sorted(history, reverse=True)
        if nesting_of(row, falling) == nesting:
            yield row, history, falling
            yield row, first, falling


class InterfaceTest(unittest.TestCase):
    def test_names_and_parameters(self):
        for name, words in WORDS.items():
            with self.subTest(name):
                self.assertEqual(list(inspect.signature(getattr(same, name)).parameters), words)
                self.assertEqual(getattr(same, name).__module__, "putinside.same")

    def test_examples_of_the_document(self):
        self.assertIs(same_nesting(ROW, [2, 0, 1], [2, 1, 0]), True)
        self.assertIs(same_nesting(ROW, [2, 0, 1], [1, 0, 2]), False)
        self.assertEqual(free_exchanges(ROW, [2, 0, 1]), [0, 1])
        self.assertEqual(exchanged(ROW, [2, 0, 1], 0), [0, 2, 1])
        self.assertEqual(exchanges_apart(ROW, [0, 2, 1], [2, 1, 0]), 2)
        with self.assertRaises(Blocked) as caught:
            exchanged(ROW, [0, 2, 1], 1)
        self.assertEqual(vars(caught.exception), {"index": 1})
        self.assertIs(shows_exchange_plan(ROW, [0, 2, 1], [2, 1, 0], [0, 1]), True)
        self.assertEqual(exchange_plan(ROW, [0, 2, 1], [0, 2, 1]), [])


class SameNestingTest(unittest.TestCase):
    def test_small_rows(self):
        for row in small_rows():
            if len(row) < 5:
                for one, other in itertools.product(histories_of(row), repeat=2):
                    self.assertIs(same_nesting(row, one, other), nesting_of(row, one) == nesting_of(row, other))

    def test_longer_rows(self):
        for row, one, other in longer_pairs():
            self.assertIs(same_nesting(row, one, other), True)
        for row, history in long_cases():
            for index in range(len(history) - 1):
                other = swapped(history, index)
                self.assertIs(same_nesting(row, history, other), nesting_of(row, history) == nesting_of(row, other))

    def test_other_gaps(self):
        self.assertIs(same_nesting(ROW, [0], [1]), False)
        self.assertIs(same_nesting(ROW, [], [0]), False)
        self.assertIs(same_nesting(ROW, [2, 0], [2, 0, 1]), False)
        self.assertIs(same_nesting((7,), [], []), True)


class FreeExchangesTest(unittest.TestCase):
    def test_small_rows(self):
        for row in small_rows():
            for history in histories_of(row):
                self.assertEqual(repr_of(free_exchanges(row, history)), repr_of(free_by_trying(row, history)))

    def test_longer_rows(self):
        for row, history in itertools.chain(long_cases(), cases_of_every_length()):
            self.assertEqual(free_exchanges(row, history), free_by_trying(row, history))

    def test_histories_without_neighbours(self):
        self.assertEqual(free_exchanges((7,), []), [])
        self.assertEqual(free_exchanges(TWELVE, []), [])
        self.assertEqual(free_exchanges(TWELVE, [5]), [])

    def test_gaps_beside_one_box(self):
        self.assertEqual(free_exchanges((1, 3, 2), [0, 1]), [0])
        self.assertEqual(free_exchanges((1, 2, 3), [0, 1]), [])
        self.assertEqual(free_exchanges((3, 2, 1), [0, 1]), [])
        self.assertEqual(free_exchanges((2, 1, 3), [1, 0]), [])
        self.assertEqual(free_exchanges((1, 2, 3, 4), [0, 2]), [0])


class ExchangedTest(unittest.TestCase):
    def test_small_rows(self):
        for row in small_rows():
            for history in histories_of(row):
                free = free_by_trying(row, history)
                for index in range(-2, len(history) + 1):
                    if index in free:
                        self.assertEqual(repr_of(exchanged(row, history, index)), repr_of(swapped(history, index)))
                    else:
                        error = Blocked if 0 <= index <= len(history) - 2 else NoIndex
                        with self.assertRaises(error) as caught:
                            exchanged(row, history, index)
                        self.assertEqual(vars(caught.exception), {"index": index})

    def test_longer_rows(self):
        for row, history in long_cases():
            for index in range(len(history) - 1):
                if index in free_by_trying(row, history):
                    self.assertEqual(exchanged(row, history, index), swapped(history, index))
                else:
                    self.assertRaises(Blocked, exchanged, row, history, index)

    def test_no_such_index(self):
        for row, history in [((7,), []), (ROW, []), (ROW, [1]), (ROW, [0, 2, 1]), (TWELVE, list(range(11)))]:
            for index in [-1, -2, -3, len(history) - 1, len(history), 11, HUGE, -HUGE]:
                with self.assertRaises(NoIndex) as caught:
                    exchanged(row, history, index)
                self.assertEqual(vars(caught.exception), {"index": index})

    def test_no_index_before_blocked(self):
        self.assertRaises(NoIndex, exchanged, (1, 2, 3), [0, 1], 1)
        self.assertRaises(NoIndex, exchanged, (1, 2, 3), [0, 1], -1)
        self.assertRaises(NoIndex, exchanged, (1, 2, 3), [0, 1], -2)
        self.assertRaises(Blocked, exchanged, (1, 2, 3), [0, 1], 0)

    def test_the_history_itself_stays(self):
        history = [2, 0, 1]
        exchanged(ROW, history, 0)
        self.assertEqual(history, [2, 0, 1])


class PlansTest(unittest.TestCase):
    def check_pair(self, row, one, other, apart):
        self.assertEqual(exchanges_apart(row, one, other), apart)
        plan = exchange_plan(row, one, other)
        self.assertIs(type(plan), list)
        self.assertEqual(len(plan), apart)
        self.assertEqual(carried_out(row, one, plan), other)
        self.assertIs(shows_exchange_plan(row, one, other, plan), True)
        self.assertEqual(exchange_plan(row, one, other), plan)

    def test_small_rows(self):
        for row in small_rows():
            if len(row) < 5 or row[0] + row[3] == 5:
                for lead in classes(row):
                    for one in lead:
                        found = distances(row, one)
                        self.assertEqual(sorted(found), [tuple(other) for other in lead])
                        for other in lead:
                            self.check_pair(row, one, other, found[tuple(other)])

    def test_a_class_of_a_row_of_six(self):
        row = (3, 1, 5, 6, 2, 4)
        for lead in classes(row):
            one = lead[len(lead) // 2]
            for other, apart in distances(row, one).items():
                self.check_pair(row, one, list(other), apart)

    def test_longer_rows(self):
        for row, one, other in longer_pairs():
            turned = [pair for pair in itertools.combinations(one, 2) if other.index(pair[0]) > other.index(pair[1])]
            self.check_pair(row, one, other, len(turned))

    def test_all_exchanges_of_gaps_that_do_not_touch(self):
        self.check_pair(TWELVE, [0, 2, 4, 6, 8, 10], [10, 8, 6, 4, 2, 0], 15)

    def test_nothing_to_do(self):
        for row, history in long_cases():
            self.check_pair(row, history, history, 0)
        self.check_pair((7,), [], [], 0)

    def test_other_nesting(self):
        cases = [(ROW, [2, 0, 1], [1, 0, 2]), (ROW, [], [0]), (ROW, [0], []), (ROW, [0], [1]),
                 ((1, 2, 3), [0, 1], [1, 0]), (ROW, [2, 0], [2, 0, 1]),
                 (TWELVE, list(range(11)), list(range(10, -1, -1)))]
        for row, one, other in cases:
            for function in [exchanges_apart, exchange_plan]:
                with self.assertRaises(OtherNesting) as caught:
                    function(row, one, other)
                self.assertEqual(vars(caught.exception), {})

    def test_other_nesting_of_small_rows(self):
        for row in small_rows():
            if len(row) == 4:
                for one, other in itertools.product(histories_of(row), repeat=2):
                    if nesting_of(row, one) != nesting_of(row, other):
                        self.assertRaises(OtherNesting, exchanges_apart, row, one, other)
                        self.assertRaises(OtherNesting, exchange_plan, row, one, other)


class ShowsExchangePlanTest(unittest.TestCase):
    def check(self, row, one, other, thing, wanted):
        before = repr_of(thing)
        self.assertIs(shows_exchange_plan(row, one, other, thing), wanted)
        self.assertIs(shows_exchange_plan(list(row), tuple(one), tuple(other), thing), wanted)
        self.assertEqual(repr_of(thing), before)

    def test_all_short_lists(self):
        for row in [ROW, (4, 1, 3, 2), (1, 4, 3, 2), (1, 3, 4, 2)]:
            plans = [list(plan) for many in range(4) for plan in itertools.product([-1, 0, 1, 2], repeat=many)]
            for one in itertools.permutations(range(3)):
                for plan in plans:
                    reached = carried_out(row, list(one), plan)
                    for other in itertools.permutations(range(3)):
                        self.assertIs(shows_exchange_plan(row, list(one), list(other), plan), reached == list(other))

    def test_longer_than_needed(self):
        self.check(ROW, [0, 2, 1], [0, 2, 1], [0, 0], True)
        self.check(ROW, [0, 2, 1], [2, 1, 0], [0, 1], True)
        self.check(ROW, [0, 2, 1], [2, 1, 0], [0, 1, 1, 1], True)
        self.check(ROW, [0, 2, 1], [2, 1, 0], [0, 0, 0, 1], True)
        self.check(ROW, [0, 2, 1], [2, 0, 1], [0] * 2001, True)
        self.check(ROW, [0, 2, 1], [2, 0, 1], [0] * 2000, False)

    def test_does_not_get_there(self):
        self.check(ROW, [0, 2, 1], [2, 1, 0], [0], False)
        self.check(ROW, [0, 2, 1], [2, 1, 0], [], False)
        self.check(ROW, [0, 2, 1], [2, 1, 0], [0, 1, 0], False)
        self.check(ROW, [0, 2, 1], [2, 1, 0], [0, 1, 1], False)

    def test_not_free_in_its_turn(self):
        self.check(ROW, [0, 2, 1], [0, 2, 1], [1, 1], False)
        self.check(ROW, [0, 2, 1], [2, 1, 0], [1, 0, 1], False)
        self.check((1, 2, 3), [0, 1], [0, 1], [0, 0], False)
        self.check((1, 2, 3), [0, 1], [1, 0], [0], False)

    def test_other_nesting(self):
        for thing in [[], [0], [1], [0, 1], [0, 1, 0]]:
            self.check(ROW, [2, 0, 1], [1, 0, 2], thing, False)
            self.check(ROW, [2, 0], [2, 0, 1], thing, False)
            self.check(ROW, [2, 0, 1], [2, 0], thing, False)
            self.check(ROW, [], [0], thing, False)

    def test_indices_that_do_not_exist(self):
        for index in [-1, -2, -3, 2, 3, HUGE, -HUGE]:
            for thing in [[index], [index, index], [0, index], [index, 0], [0, 1, index], [0, index, 1]]:
                self.check(ROW, [0, 2, 1], [2, 1, 0], thing, False)
                self.check(ROW, [0, 2, 1], [0, 2, 1], thing, False)
        for index in [0, -1, 1]:
            self.check((7,), [], [], [index], False)
            self.check((7, 8), [0], [0], [index], False)

    def test_empty_plan(self):
        self.check((7,), [], [], [], True)
        self.check((7,), [], [], (), False)
        self.check(ROW, [0, 2, 1], [0, 2, 1], [], True)
        for thing in [(), "", None, False, 0, [[]], [()], [None], [""], ((),)]:
            self.check(ROW, [0, 2, 1], [0, 2, 1], thing, False)

    def test_other_values(self):
        self.check(ROW, [0, 2, 1], [2, 0, 1], [0], True)
        self.check(ROW, [2, 0, 1], [2, 1, 0], [1], True)
        # Two lists among these values are plans.
        others = [thing for thing in NO_NUMBERS if thing not in ([1], [0, 1])]
        things = others + [0, 1, HUGE, "0", "0 1", (0,), (0, 1), [False], [True], [False, True], [0, True], ["0"],
                           [[0]], [(0,)], [(0, 1)], [[0, 1]], [None], [0, None], [0, "1"], nested(16, 0)]
        for thing in things:
            self.check(ROW, [0, 2, 1], [2, 1, 0], thing, False)
            self.check(ROW, [0, 2, 1], [2, 0, 1], thing, False)
            self.check(ROW, [2, 0, 1], [2, 1, 0], thing, False)

    def test_other_values_within_a_plan(self):
        for wrong in NO_NUMBERS:
            for thing in [[wrong], [0, wrong], [wrong, 1], [0, 1, wrong], [wrong, wrong]]:
                self.check(ROW, [0, 2, 1], [2, 1, 0], thing, False)
                self.check(ROW, [0, 2, 1], [0, 2, 1], thing, False)


class ArgumentsTest(unittest.TestCase):
    """Point 2."""

    def test_kinds_and_names(self):
        calls = [
            ("same_nesting", [ROW, [2, 0, 1], [2, 1, 0]]), ("same_nesting", [ROW, [2, 0, 1], [1, 0, 2]]),
            ("free_exchanges", [ROW, [2, 0, 1]]), ("free_exchanges", [(7,), []]),
            ("exchanged", [ROW, [2, 0, 1], 0]), ("exchanges_apart", [ROW, [0, 2, 1], [2, 1, 0]]),
            ("exchange_plan", [ROW, [0, 2, 1], [2, 1, 0]]), ("exchange_plan", [ROW, [0, 2, 1], [0, 2, 1]]),
            ("shows_exchange_plan", [ROW, [0, 2, 1], [2, 1, 0], [0, 1]]),
            ("shows_exchange_plan", [ROW, [0, 2, 1], [2, 1, 0], (0, 1)]),
        ]
        self.assertEqual({name for name, _ in calls}, set(WORDS))
        for name, values in calls:
            with self.subTest(name):
                check_arguments(self, getattr(same, name), WORDS[name], values)

    def test_one_list_and_one_tuple(self):
        self.assertIs(same_nesting(ROW, [2, 0, 1], (2, 1, 0)), True)
        self.assertEqual(exchanges_apart(ROW, [0, 2, 1], (2, 1, 0)), 2)
        self.assertEqual(exchange_plan(ROW, (0, 2, 1), [2, 1, 0]), exchange_plan(ROW, [0, 2, 1], [2, 1, 0]))
        self.assertIs(shows_exchange_plan(ROW, (0, 2, 1), [2, 1, 0], [0, 1]), True)
        self.assertIs(shows_exchange_plan(ROW, [0, 2, 1], (2, 1, 0), [0, 1]), True)

    def test_changed_results(self):
        check_fresh(self, free_exchanges, ROW, [2, 0, 1])
        check_fresh(self, free_exchanges, (7,), [])
        check_fresh(self, exchanged, ROW, [2, 0, 1], 0)
        check_fresh(self, exchange_plan, ROW, [0, 2, 1], [2, 1, 0])
        check_fresh(self, exchange_plan, ROW, [0, 2, 1], [0, 2, 1])

    def test_far_beyond_the_bounds(self):
        many = 400
        row = tuple(range(1, many + 1))
        one = list(range(0, many, 2))
        other = one[::-1]
        self.assertEqual(free_exchanges(row, one), list(range(len(one) - 1)))
        self.assertEqual(exchanges_apart(row, one, other), 199 * 100)
        self.assertIs(shows_exchange_plan(row, one, other, exchange_plan(row, one, other)), True)
        self.assertEqual(free_exchanges(row, list(range(many - 1))), [])


if __name__ == "__main__":
    unittest.main()
