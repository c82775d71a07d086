"""Taking out and putting in (points 1, 2 and 10)."""

import inspect
import unittest

from cases import (HUGE, NO_NUMBERS, ROW, TWELVE, boxes_around, cases_of_every_length, check_arguments, check_error,
                   check_fresh, histories_of, long_cases, nested, nesting_of, no_places, outermost, replaced, repr_of,
                   small_rows, steps_by_reading, with_lists)
from putinside import changes
from putinside.changes import after_step, shows_step_plan, step_plan, steps, steps_apart
from putinside.errors import Closed, NoBox, NoGap, Outer, Stuck

WORDS = {
    "steps": ["row", "nesting"],
    "after_step": ["row", "nesting", "step"],
    "steps_apart": ["row", "one", "other"],
    "step_plan": ["row", "one", "other"],
    "shows_step_plan": ["row", "one", "other", "thing"],
}

FLAT = (1, None, 1, 1)
NESTED = (1, None, 3, 1)
PLAN = [("take", 3), ("take", 2), ("put", 2), ("put", 1)]
# All rows of at most four boxes, and some of five.
SEARCHED = [row for row in small_rows() if len(row) <= 4 or row in [
    (1, 2, 3, 4, 5), (5, 4, 3, 2, 1), (2, 5, 1, 4, 3), (3, 1, 5, 2, 4), (4, 1, 3, 2, 5)]]


def nestings_of(row):
    return {nesting_of(row, history) for history in histories_of(row)}


def distances(row, start):
    """For each nesting the fewest steps from this one, from a search over all steps."""
    found = {start: 0}
    waiting = [start]
    for nesting in waiting:
        for after in steps_by_reading(row, nesting).values():
            if after not in found:
                found[after] = found[nesting] + 1
                waiting.append(after)
    return found


def carried_out(row, nesting, plan):
    """The nesting after the steps of the plan, None if one of them is not possible in its turn."""
    for step in plan:
        nesting = steps_by_reading(row, nesting).get(step)
        if nesting is None:
            return None
    return nesting


def events(row, history):
    """For each gap of the history what was put together there, in what order as far as it matters.

    A gap's event is the gap with the events of the gaps in the two stretches between the box and its holder.
    """
    found = {}
    nesting = (None,) * len(row)
    for gap in history:
        small, big = sorted([outermost(nesting, gap), outermost(nesting, gap + 1)], key=lambda place: row[place])
        content = [place for place in range(len(row)) if small in [place] + boxes_around(nesting, place)]
        low, high = min(content + [big + 1]), max(content + [big - 1])
        if small < big:
            high = big
        else:
            low = big
        below = [found[other] for other in range(low, high) if other != gap]
        found[gap] = (gap, tuple(below))
        nesting = replaced(nesting, small, big)
    return set(found.values())


def longer_nestings():
    for row, history in long_cases():
        yield row, nesting_of(row, history)
    for row, history in cases_of_every_length():
        yield row, nesting_of(row, history)


def longer_pairs():
    before = {}
    for row, history in list(long_cases()) + list(cases_of_every_length()):
        for earlier in before.get(row, [])[-6:]:
            yield row, earlier, history
        before.setdefault(row, []).append(history)


class InterfaceTest(unittest.TestCase):
    def test_names_and_parameters(self):
        for name, words in WORDS.items():
            with self.subTest(name):
                self.assertEqual(list(inspect.signature(getattr(changes, name)).parameters), words)
                self.assertEqual(getattr(changes, name).__module__, "putinside.changes")

    def test_examples_of_the_document(self):
        self.assertEqual(steps(ROW, FLAT), [("take", 0), ("take", 3)])
        self.assertEqual(after_step(ROW, FLAT, ("take", 3)), (1, None, 1, None))
        self.assertEqual(steps_apart(ROW, FLAT, NESTED), 4)
        self.assertIs(shows_step_plan(ROW, FLAT, NESTED, PLAN), True)
        check_error(self, Stuck, {"place": 2}, after_step, ROW, FLAT, ("take", 2))


class StepsTest(unittest.TestCase):
    def check_nesting(self, row, nesting):
        wanted = steps_by_reading(row, nesting)
        self.assertEqual(repr_of(steps(row, nesting)), repr_of(sorted(wanted)))
        for step, after in wanted.items():
            self.assertEqual(repr_of(after_step(row, nesting, step)), repr_of(after))
        for gap in range(len(row) - 1):
            if ("put", gap) not in wanted:
                check_error(self, Closed, {"gap": gap}, after_step, row, nesting, ("put", gap))
        for place in range(len(row)):
            if ("take", place) not in wanted:
                error = Outer if nesting[place] is None else Stuck
                check_error(self, error, {"place": place}, after_step, row, nesting, ("take", place))

    def test_small_rows(self):
        for row in small_rows():
            for nesting in nestings_of(row):
                self.check_nesting(row, nesting)

    def test_longer_rows(self):
        for row, nesting in longer_nestings():
            self.check_nesting(row, nesting)

    def test_puts_and_takes_undo_each_other(self):
        for row in small_rows():
            for nesting in nestings_of(row):
                for step in steps(row, nesting):
                    after = after_step(row, nesting, step)
                    back = [other for other in steps(row, after) if after_step(row, after, other) == nesting]
                    self.assertEqual([word for word, _ in back], ["take" if step[0] == "put" else "put"])

    def test_no_steps(self):
        self.assertEqual(steps((7,), (None,)), [])

    def test_only_puts_and_only_takes(self):
        self.assertEqual(steps(ROW, (None,) * 4), [("put", 0), ("put", 1), ("put", 2)])
        self.assertEqual(steps((2, 3, 1), (1, None, 1)), [("take", 0), ("take", 2)])
        self.assertEqual(steps(ROW, NESTED), [("take", 0), ("take", 3)])


class ErrorsTest(unittest.TestCase):
    def test_no_such_gap(self):
        for row, nesting in [((7,), (None,)), ((1, 2), (1, None)), (ROW, FLAT), (ROW, (None,) * 4)]:
            for gap in [-1, -2, -len(row), len(row) - 1, len(row), 12, HUGE, -HUGE]:
                check_error(self, NoGap, {"gap": gap}, after_step, row, nesting, ("put", gap))

    def test_no_such_box(self):
        for row, nesting in [((7,), (None,)), ((1, 2), (1, None)), (ROW, FLAT), (TWELVE, (None,) * 12)]:
            for place in no_places(row):
                if not 0 <= place < len(row):
                    check_error(self, NoBox, {"place": place}, after_step, row, nesting, ("take", place))

    def test_closed(self):
        for gap in range(3):
            check_error(self, Closed, {"gap": gap}, after_step, ROW, FLAT, ("put", gap))
        check_error(self, Closed, {"gap": 1}, after_step, ROW, (None, None, 1, None), ("put", 1))

    def test_outer(self):
        check_error(self, Outer, {"place": 1}, after_step, ROW, FLAT, ("take", 1))
        check_error(self, Outer, {"place": 0}, after_step, (7,), (None,), ("take", 0))

    def test_stuck_in_a_box_that_is_not_outer(self):
        check_error(self, Stuck, {"place": 2}, after_step, ROW, NESTED, ("take", 2))

    def test_stuck_behind_another_box(self):
        row, nesting = (1, 2, 5, 4, 3), (2, 2, None, 2, 2)
        check_error(self, Stuck, {"place": 1}, after_step, row, nesting, ("take", 1))
        check_error(self, Stuck, {"place": 3}, after_step, row, nesting, ("take", 3))
        self.assertEqual(after_step(row, nesting, ("take", 0)), (None, 2, None, 2, 2))
        self.assertEqual(after_step(row, nesting, ("take", 4)), (2, 2, None, 2, None))

    def test_the_nesting_stays(self):
        nesting = [1, None, 1, 1]
        self.assertRaises(Stuck, after_step, ROW, nesting, ("take", 2))
        self.assertRaises(Closed, after_step, ROW, nesting, ("put", 2))
        after_step(ROW, nesting, ("take", 3))
        self.assertEqual(nesting, [1, None, 1, 1])


class PlansTest(unittest.TestCase):
    def check_pair(self, row, one, other, apart):
        self.assertEqual(steps_apart(row, one, other), apart)
        plan = step_plan(row, one, other)
        self.assertIs(type(plan), list)
        self.assertEqual(len(plan), apart)
        self.assertEqual(carried_out(row, one, plan), other)
        self.assertIs(shows_step_plan(row, one, other, plan), True)
        self.assertEqual(repr_of(step_plan(row, one, other)), repr_of(plan))

    def test_small_rows_against_a_search(self):
        for row in SEARCHED:
            nestings = nestings_of(row)
            for one in nestings:
                found = distances(row, one)
                self.assertEqual(set(found), nestings)
                for other, apart in found.items():
                    self.check_pair(row, one, other, apart)

    def test_a_row_of_six_against_a_search(self):
        row = (3, 1, 5, 6, 2, 4)
        for history in [[], [0, 1, 2, 3, 4], [4, 3, 2, 1, 0], [3, 0, 4], [1, 0]]:
            one = nesting_of(row, history)
            for other, apart in distances(row, one).items():
                self.check_pair(row, one, other, apart)

    def test_longer_rows(self):
        for row, one, other in longer_pairs():
            apart = len(events(row, one) ^ events(row, other))
            self.check_pair(row, nesting_of(row, one), nesting_of(row, other), apart)

    def test_nothing_to_do(self):
        for row, nesting in longer_nestings():
            self.assertEqual(steps_apart(row, nesting, nesting), 0)
            self.assertEqual(step_plan(row, nesting, nesting), [])

    def test_all_the_way(self):
        for row, nesting in longer_nestings():
            many = len(row) - nesting.count(None)
            alone = (None,) * len(row)
            self.check_pair(row, nesting, alone, many)
            self.check_pair(row, alone, nesting, many)

    def test_the_same_holder_at_another_time(self):
        # In both nestings the boxes 1 and 3 have the same holder, but one of them has other boxes in it.
        self.check_pair((1, 2, 3), (1, 2, None), (2, 2, None), 4)
        self.check_pair((1, 2, 3), (2, 2, None), (None, 2, None), 1)
        self.check_pair((1, 2, 3), (1, 2, None), (None, 2, None), 3)


class ShowsStepPlanTest(unittest.TestCase):
    def check(self, row, one, other, thing, wanted):
        before = repr_of(thing)
        self.assertIs(shows_step_plan(row, one, other, thing), wanted)
        self.assertIs(shows_step_plan(list(row), list(one), list(other), thing), wanted)
        self.assertEqual(repr_of(thing), before)

    def test_plans_with_changes(self):
        for row, one, other in list(longer_pairs())[::7]:
            start, end = nesting_of(row, one), nesting_of(row, other)
            plan = step_plan(row, start, end)
            changed = [plan[1:], plan[:-1], plan + plan, plan[::-1], plan[:1] + plan[2:] + plan[1:2],
                       plan + [("put", 0)], plan + [("take", 0)], [("take", 1)] + plan, plan[:2] + plan]
            for other_plan in changed:
                self.check(row, start, end, other_plan, carried_out(row, start, other_plan) == end)

    def test_all_short_plans(self):
        for row in [ROW, (1, 2, 3), (3, 1, 2), (1, 3, 2, 4)]:
            words = [("put", gap) for gap in range(len(row) - 1)] + [("take", place) for place in range(len(row))]
            plans = [[]] + [[one] for one in words] + [[one, other] for one in words for other in words]
            for start in nestings_of(row):
                for plan in plans:
                    end = carried_out(row, start, plan)
                    for other in nestings_of(row):
                        self.assertIs(shows_step_plan(row, start, other, plan), end == other)

    def test_longer_than_needed(self):
        there_and_back = [("take", 3), ("put", 2)]
        self.check(ROW, FLAT, FLAT, [], True)
        self.check(ROW, FLAT, FLAT, there_and_back, True)
        self.check(ROW, FLAT, FLAT, there_and_back * 500, True)
        self.check(ROW, FLAT, FLAT, there_and_back * 500 + [("take", 3)], False)
        self.check(ROW, FLAT, NESTED, there_and_back + PLAN, True)

    def test_booleans_in_place_of_numbers(self):
        nesting = (None, None, 1, 1)
        self.check(ROW, nesting, (1, None, 1, 1), [("put", 0)], True)
        self.check(ROW, nesting, (1, None, 1, 1), [("put", False)], False)
        self.check(ROW, (None, None, None, 1), (None, None, None, 1), [("put", True)], False)
        self.check(ROW, (None, None, None, None), (None, None, 1, None), [("put", 1)], True)
        self.check(ROW, (None, None, None, None), (None, None, 1, None), [("put", True)], False)
        self.check(ROW, FLAT, (None, None, 1, 1), [("take", 0)], True)
        self.check(ROW, FLAT, (None, None, 1, 1), [("take", False)], False)

    def test_lists_and_tuples_the_other_way_round(self):
        for thing in [tuple(PLAN), [list(step) for step in PLAN], PLAN[:3] + [["put", 1]], with_lists(PLAN)]:
            self.check(ROW, FLAT, NESTED, thing, False)
        self.check(ROW, FLAT, FLAT, (), False)

    def test_other_forms(self):
        for thing in [["take", 3], [("take",)], [("take", 3, 0)], [("take", "3")], [(3, "take")], [("Take", 3)],
                      [("take ", 3)], [("", 3)], [(None, 3)], [("take", None)], [("take", (3,))], [(("take",), 3)],
                      [(["take"], 3)], ["take 3"], [("pull", 3)], [3], [[]], [()], [((("take", 3),),)], [("tk", 3)]]:
            self.check(ROW, FLAT, (1, None, 1, None), thing, False)
        self.check(ROW, FLAT, (1, None, 1, None), [("take", 3)], True)

    def test_other_values(self):
        things = [thing for thing in NO_NUMBERS if thing != []]
        for wrong in things + [0, 1, HUGE, -HUGE, "-", "take", "put", nested(16, 0), nested(15, ("take", 3))]:
            self.check(ROW, FLAT, NESTED, wrong, False)
            self.check(ROW, FLAT, FLAT, wrong, False)
        for wrong in NO_NUMBERS + [0, 1, HUGE, "take", nested(14, 0)]:
            self.check(ROW, FLAT, NESTED, [wrong], False)
            self.check(ROW, FLAT, NESTED, PLAN + [wrong], False)
            self.check(ROW, FLAT, NESTED, [wrong] + PLAN, False)
        for wrong in NO_NUMBERS + ["take", "put", HUGE, -HUGE, -1, 4, nested(13, 0)]:
            self.check(ROW, FLAT, NESTED, PLAN[:3] + [("put", wrong)], False)
            self.check(ROW, FLAT, NESTED, [("take", wrong)] + PLAN[1:], False)
            self.check(ROW, FLAT, NESTED, [(wrong, 3)] + PLAN[1:], wrong == "take")

    def test_numbers_that_name_nothing(self):
        for number in [-1, -2, -4, 3, 4, 99, HUGE, -HUGE]:
            self.check(ROW, (None,) * 4, (None,) * 4, [("put", number)], False)
            self.check(ROW, FLAT, FLAT, [("take", number), ("put", 2)], number == 3)
        for number in [0, -1, 1]:
            self.check((7,), (None,), (None,), [("put", number)], False)
            self.check((7,), (None,), (None,), [("take", number)], False)
        self.check((7,), (None,), (None,), [], True)


class ArgumentsTest(unittest.TestCase):
    """Point 2."""

    def test_kinds_and_names(self):
        calls = [
            ("steps", [ROW, FLAT]), ("steps", [ROW, (None,) * 4]), ("steps", [(7,), (None,)]),
            ("after_step", [ROW, FLAT, ("take", 3)]), ("after_step", [ROW, (None,) * 4, ("put", 2)]),
            ("steps_apart", [ROW, FLAT, NESTED]), ("step_plan", [ROW, FLAT, NESTED]),
            ("step_plan", [ROW, FLAT, FLAT]), ("shows_step_plan", [ROW, FLAT, NESTED, PLAN]),
            ("shows_step_plan", [ROW, FLAT, NESTED, tuple(PLAN)]),
        ]
        self.assertEqual({name for name, _ in calls}, set(WORDS))
        for name, values in calls:
            with self.subTest(name):
                check_arguments(self, getattr(changes, name), WORDS[name], values)

    def test_one_list_and_one_tuple(self):
        self.assertIs(shows_step_plan(ROW, list(FLAT), NESTED, PLAN), True)
        self.assertIs(shows_step_plan(ROW, FLAT, list(FLAT), []), True)
        self.assertEqual(step_plan(ROW, list(FLAT), NESTED), step_plan(ROW, FLAT, list(NESTED)))

    def test_changed_results(self):
        check_fresh(self, steps, ROW, FLAT)
        check_fresh(self, steps, (7,), (None,))
        check_fresh(self, step_plan, ROW, FLAT, NESTED)
        check_fresh(self, step_plan, ROW, FLAT, FLAT)

    def test_changed_arguments(self):
        nesting = list(FLAT)
        found = after_step(ROW, nesting, ("take", 3))
        nesting[0] = None
        self.assertEqual(found, (1, None, 1, None))

    def test_far_beyond_the_bounds(self):
        row = tuple(range(1, 101))
        chain = tuple(range(1, 100)) + (None,)
        flat = (99,) * 99 + (None,)
        self.assertEqual(steps(row, chain), [("take", 98)])
        self.assertEqual(steps(row, flat), [("take", 0)])
        self.assertEqual(steps_apart(row, chain, flat), 198)
        plan = step_plan(row, chain, flat)
        self.assertIs(shows_step_plan(row, chain, flat, plan), True)


if __name__ == "__main__":
    unittest.main()
