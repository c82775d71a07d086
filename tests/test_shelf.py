"""The shelf (points 1, 2, 12 and 13)."""

import inspect
import random
import unittest

from cases import (HUGE, ROW, TWELVE, check_error, check_fresh, nesting_of, played, repr_of, small_rows,
                   steps_by_reading)
from putinside import shelf as shelf_file
from putinside.errors import Closed, Duplicate, Full, NoBox, NoGap, NoState, Outer, Stuck
from putinside.histories import count_histories
from putinside.shelf import Shelf

METHODS = {
    "close": ["gap"], "close_all": ["history"], "take_out": ["place"], "add": ["size"], "undo": [],
    "row": [], "history": [], "nesting": [], "open_gaps": [], "steps": [], "count": [], "operations": [],
    "as_of": ["many"], "twin": [], "log": [],
}
# A row of twelve boxes with which all operations are soon possible.
MANY = (5, 12, 1, 8, 3, 10, 2, 7, 11, 4, 9, 6)


class State:
    """What a shelf should hold: its states from the first one on, and its log."""

    def __init__(self, row):
        self.states = [(tuple(row), [])]
        self.notes = []

    def row(self):
        return self.states[-1][0]

    def history(self):
        return list(self.states[-1][1])

    def nesting(self):
        return nesting_of(*self.states[-1])

    def wanted(self, name, value):
        """What the operation returns, or the error with its values that it raises; the state changes with it."""
        self.notes += [("in", name), ("out", name)]
        return getattr(self, name)(value)

    def close(self, gap):
        row, history = self.states[-1]
        if not 0 <= gap < len(row) - 1:
            return NoGap, {"gap": gap}
        if gap in history:
            return Closed, {"gap": gap}
        self.states.append((row, history + [gap]))
        return played(row, history + [gap])[1][-1]

    def close_all(self, history):
        start = len(self.states)
        for gap in history:
            found = self.close(gap)
            if found[0] in (NoGap, Closed):
                del self.states[start:]
                return found
        self.states[start:] = [self.states[-1]]
        return None

    def take_out(self, place):
        row, history = self.states[-1]
        nesting = nesting_of(row, history)
        if not 0 <= place < len(row):
            return NoBox, {"place": place}
        if nesting[place] is None:
            return Outer, {"place": place}
        after = steps_by_reading(row, nesting).get(("take", place))
        if after is None:
            return Stuck, {"place": place}
        [gap] = [gap for gap in history if nesting_of(row, [one for one in history if one != gap]) == after]
        self.states.append((row, [one for one in history if one != gap]))
        return gap

    def add(self, size):
        row, history = self.states[-1]
        if size in row:
            return Duplicate, {"size": size}
        if len(row) >= 12:
            return Full, {"many": 12}
        self.states.append((row + (size,), history))
        return len(row)

    def undo(self, _):
        if len(self.states) == 1:
            return False
        self.states.pop()
        return True


def is_error(found):
    return isinstance(found, tuple) and isinstance(found[0], type)


def operate(test, shelf, state, name, value):
    """Carry out the operation on both, and compare what comes of it."""
    wanted = state.wanted(name, value)
    arguments = [] if name == "undo" else [value]
    if is_error(wanted):
        check_error(test, wanted[0], wanted[1], getattr(shelf, name), *arguments)
    else:
        test.assertEqual(repr_of(getattr(shelf, name)(*arguments)), repr_of(wanted))


def check_queries(test, shelf, state):
    row, history, nesting = state.row(), state.history(), state.nesting()
    test.assertEqual(repr_of(shelf.row()), repr_of(row))
    test.assertEqual(repr_of(shelf.history()), repr_of(history))
    test.assertEqual(repr_of(shelf.nesting()), repr_of(nesting))
    test.assertEqual(repr_of(shelf.open_gaps()), repr_of([gap for gap in range(len(row) - 1) if gap not in history]))
    test.assertEqual(repr_of(shelf.steps()), repr_of(sorted(steps_by_reading(row, nesting))))
    test.assertEqual(shelf.count(), count_histories(row, nesting))
    test.assertEqual(shelf.operations(), len(state.states) - 1)
    test.assertEqual(repr_of(shelf.log()), repr_of(state.notes))
    test.assertEqual(len(shelf), len(row))
    test.assertEqual(repr(shelf), f"Shelf({len(row)} boxes, {nesting.count(None)} outer)")


def value_for(chance, state, name):
    """A value for the operation, a good one more often than not."""
    row, history = state.states[-1]
    if name == "close":
        return chance.randrange(-1, len(row) + 1)
    if name == "close_all":
        return [chance.randrange(len(row)) for _ in range(chance.randrange(4))]
    if name == "take_out":
        possible = [place for word, place in steps_by_reading(row, state.nesting()) if word == "take"]
        return chance.choice(possible + possible + list(range(-1, len(row) + 1)))
    if name == "add":
        return chance.randrange(1, 40)
    return None


def led_on(chance, state, many):
    """So many operations by name and value; each is also carried out on the state."""
    names = ["close"] * 5 + ["close_all", "close_all", "take_out", "take_out", "take_out", "add", "undo", "undo"]
    for _ in range(many):
        name = chance.choice(names)
        yield name, value_for(chance, state, name)


def rows():
    return list(small_rows())[::6] + [(7,), ROW, MANY, tuple(range(1, 9)), (9, 8, 3, 4, 5, 7, 6)]


class InterfaceTest(unittest.TestCase):
    def test_methods(self):
        self.assertEqual(Shelf.__module__, "putinside.shelf")
        self.assertIs(shelf_file.Shelf, Shelf)
        self.assertEqual(list(inspect.signature(Shelf).parameters), ["row"])
        for name, words in METHODS.items():
            with self.subTest(name):
                self.assertIn(name, vars(Shelf))
                self.assertEqual(list(inspect.signature(vars(Shelf)[name]).parameters), ["self"] + words)
        for name in ["__eq__", "__len__", "__repr__"]:
            self.assertIn(name, vars(Shelf))

    def test_examples_of_the_document(self):
        s = Shelf(ROW)
        self.assertEqual((s.close(2), s.close(1), s.nesting(), s.open_gaps(), s.count()),
                         ((2, 3), (3, 1), (None, None, 3, 1), [0], 1))
        self.assertEqual((s.take_out(3), s.history(), s.add(9), repr(s)), (1, [2], 4, "Shelf(5 boxes, 4 outer)"))
        check_error(self, Outer, {"place": 1}, s.take_out, 1)
        self.assertEqual((s.undo(), s.undo(), s.nesting(), s.operations()), (True, True, (None, None, 3, 1), 2))

    def test_by_name(self):
        s = Shelf(row=ROW)
        self.assertEqual(s.close(gap=2), (2, 3))
        self.assertIs(s.close_all(history=[1]), None)
        self.assertEqual(s.take_out(place=3), 1)
        self.assertEqual(s.add(size=9), 4)
        self.assertEqual(s.as_of(many=1).history(), [2])
        self.assertRaises(Closed, s.close, gap=2)
        self.assertRaises(NoState, s.as_of, many=5)


class BesideAStateTest(unittest.TestCase):
    def test_operation_by_operation(self):
        chance = random.Random(1)
        for row in rows():
            for _ in range(3):
                shelf, state = Shelf(row), State(row)
                check_queries(self, shelf, state)
                for name, value in led_on(chance, state, 25):
                    operate(self, shelf, state, name, value)
                    check_queries(self, shelf, state)

    def test_all_errors_and_all_results_occur(self):
        chance = random.Random(2)
        seen = set()
        for row in rows():
            state = State(row)
            for name, value in led_on(chance, state, 60):
                before = len(state.states)
                wanted = state.wanted(name, value)
                seen.add((name, wanted[0] if is_error(wanted) else len(state.states) != before))
        for name in ["close", "close_all", "take_out", "add", "undo"]:
            self.assertIn((name, True), seen)
        for name, error in [("close", NoGap), ("close", Closed), ("close_all", NoGap), ("close_all", Closed),
                            ("take_out", NoBox), ("take_out", Outer), ("take_out", Stuck), ("add", Duplicate),
                            ("add", Full)]:
            self.assertIn((name, error), seen)

    def test_undone_to_the_first_state_and_once_more(self):
        chance = random.Random(3)
        for row in rows():
            shelf, state = Shelf(row), State(row)
            for name, value in led_on(chance, state, 30):
                operate(self, shelf, state, name, value)
            while len(state.states) > 1:
                operate(self, shelf, state, "undo", None)
                check_queries(self, shelf, state)
            for _ in range(2):
                self.assertIs(shelf.undo(), False)
                state.wanted("undo", None)
                check_queries(self, shelf, state)
            self.assertEqual(shelf, Shelf(row))

    def test_a_new_shelf_with_the_operations_in_effect(self):
        chance = random.Random(4)
        for row in rows():
            shelf, state = Shelf(row), State(row)
            done = []
            for name, value in led_on(chance, state, 30):
                before = len(state.states)
                operate(self, shelf, state, name, value)
                if name == "undo":
                    done = done[:len(state.states) - 1]
                elif len(state.states) > before:
                    done.append((name, value))
            again, beside = Shelf(row), State(row)
            for name, value in done:
                operate(self, again, beside, name, value)
            self.assertEqual(again, shelf)
            self.assertEqual(again.operations(), shelf.operations())
            check_queries(self, again, beside)
            state.notes, beside.notes = [], []
            for name, value in list(led_on(chance, state, 15)):
                operate(self, again, beside, name, value)
                wanted = state.wanted(name, value)
                if is_error(wanted):
                    check_error(self, wanted[0], wanted[1], getattr(shelf, name), value)
                else:
                    self.assertEqual(getattr(shelf, name)(*([] if name == "undo" else [value])), wanted)
                self.assertEqual(again, shelf)
                self.assertEqual([again.as_of(many).history() for many in range(again.operations() + 1)],
                                 [shelf.as_of(many).history() for many in range(shelf.operations() + 1)])

    def test_twelve_boxes_and_sixty_operations(self):
        chance = random.Random(5)
        shelf, state = Shelf(MANY[:4]), State(MANY[:4])
        for size in MANY[4:]:
            operate(self, shelf, state, "add", size)
        while len(state.states) <= 60:
            name = chance.choice(["close", "close", "take_out", "close_all"])
            operate(self, shelf, state, name, value_for(chance, state, name))
        check_queries(self, shelf, state)
        operate(self, shelf, state, "add", 13)
        operate(self, shelf, state, "add", 12)
        check_queries(self, shelf, state)
        for _ in range(61):
            operate(self, shelf, state, "undo", None)
        check_queries(self, shelf, state)

    def test_somewhat_more_operations(self):
        shelf, state = Shelf((1, 2, 3)), State((1, 2, 3))
        for _ in range(50):
            operate(self, shelf, state, "close", 1)
            operate(self, shelf, state, "take_out", 1)
        check_queries(self, shelf, state)
        self.assertEqual(shelf.operations(), 100)


class OperationsTest(unittest.TestCase):
    def test_close(self):
        s = Shelf(ROW)
        self.assertEqual(s.close(1), (2, 1))
        for gap in [-1, -2, 3, 4, 12, HUGE, -HUGE]:
            check_error(self, NoGap, {"gap": gap}, s.close, gap)
        check_error(self, Closed, {"gap": 1}, s.close, 1)
        self.assertEqual(s.history(), [1])
        check_error(self, NoGap, {"gap": 0}, Shelf((7,)).close, 0)

    def test_close_all(self):
        s = Shelf(ROW)
        self.assertIs(s.close_all([]), None)
        self.assertEqual((s.history(), s.operations()), ([], 1))
        self.assertIs(s.close_all([2, 0]), None)
        self.assertEqual((s.history(), s.operations()), ([2, 0], 2))
        self.assertIs(s.close_all((1,)), None)
        self.assertEqual((s.history(), s.operations()), ([2, 0, 1], 3))
        self.assertIs(s.undo(), True)
        self.assertEqual(s.history(), [2, 0])
        self.assertIs(s.undo(), True)
        self.assertEqual((s.history(), s.operations()), ([], 1))
        self.assertIs(s.undo(), True)
        self.assertEqual(s.operations(), 0)

    def test_close_all_fails_in_the_middle(self):
        s = Shelf(ROW)
        s.close(1)
        for gaps, error, gap in [([0, 1, 2], Closed, 1), ([0, 0], Closed, 0), ([2, 0, 3], NoGap, 3),
                                 ([2, -1, 1], NoGap, -1), ([1, 3], Closed, 1), ([3, 1], NoGap, 3),
                                 ([0, 2, 2], Closed, 2), ([0, 2, HUGE], NoGap, HUGE)]:
            check_error(self, error, {"gap": gap}, s.close_all, gaps)
            self.assertEqual((s.history(), s.operations()), ([1], 1))

    def test_take_out(self):
        s = Shelf((1, 2, 5, 4, 3))
        s.close_all([2, 3, 1, 0])
        for place in [-1, -5, 5, 12, HUGE, -HUGE]:
            check_error(self, NoBox, {"place": place}, s.take_out, place)
        check_error(self, Outer, {"place": 2}, s.take_out, 2)
        check_error(self, Stuck, {"place": 1}, s.take_out, 1)
        self.assertEqual(s.take_out(0), 0)
        self.assertEqual(s.take_out(4), 3)
        self.assertEqual(s.history(), [2, 1])
        self.assertEqual(s.take_out(3), 2)
        self.assertEqual(s.history(), [1])
        self.assertEqual(s.nesting(), (None, 2, None, None, None))

    def test_add(self):
        s = Shelf((2, 1))
        s.close(0)
        check_error(self, Duplicate, {"size": 1}, s.add, 1)
        self.assertEqual(s.add(10 ** 9), 2)
        self.assertEqual(s.row(), (2, 1, 10 ** 9))
        self.assertEqual(s.close(1), (0, 2))
        check_error(self, Duplicate, {"size": 10 ** 9}, s.add, 10 ** 9)

    def test_a_thirteenth_box(self):
        s = Shelf(TWELVE[:11])
        self.assertEqual(s.add(TWELVE[11]), 11)
        check_error(self, Full, {"many": 12}, s.add, 13)
        check_error(self, Duplicate, {"size": 12}, s.add, 12)
        self.assertEqual(s.row(), TWELVE)
        beyond = Shelf(range(1, 15))
        check_error(self, Full, {"many": 12}, beyond.add, 15)
        check_error(self, Duplicate, {"size": 14}, beyond.add, 14)

    def test_undo_of_each_operation(self):
        s = Shelf(ROW)
        s.close(2)
        for name, value in [("close", 1), ("close_all", [0, 1]), ("close_all", []), ("take_out", 2), ("add", 9)]:
            getattr(s, name)(value)
            self.assertEqual(s.operations(), 2)
            self.assertIs(s.undo(), True)
            self.assertEqual((s.row(), s.history(), s.operations()), (ROW, [2], 1))

    def test_undo_passes_over_failed_operations(self):
        s = Shelf(ROW)
        s.close(2)
        self.assertRaises(Closed, s.close, 2)
        self.assertRaises(Duplicate, s.add, 4)
        self.assertRaises(Closed, s.close_all, [0, 2])
        self.assertIs(s.undo(), True)
        self.assertIs(s.undo(), False)


class LogTest(unittest.TestCase):
    def test_two_entries_for_each_call(self):
        s = Shelf(ROW)
        self.assertEqual(s.log(), [])
        s.close(2)
        self.assertRaises(Closed, s.close, 2)
        s.close_all([0, 1])
        self.assertRaises(NoGap, s.close_all, [9])
        self.assertRaises(Stuck, s.take_out, 2)
        s.take_out(3)
        s.add(9)
        self.assertRaises(Duplicate, s.add, 9)
        for _ in range(5):
            s.undo()
        names = ["close"] * 2 + ["close_all"] * 2 + ["take_out"] * 2 + ["add"] * 2 + ["undo"] * 5
        self.assertEqual(s.log(), [(word, name) for name in names for word in ["in", "out"]])

    def test_queries_are_not_logged(self):
        s = Shelf(ROW)
        s.close(0)
        for name in ["row", "history", "nesting", "open_gaps", "steps", "count", "operations", "twin", "log"]:
            getattr(s, name)()
        s.as_of(0)
        self.assertRaises(NoState, s.as_of, 2)
        self.assertEqual((len(s), s == s.twin(), repr(s)), (4, True, "Shelf(4 boxes, 3 outer)"))
        self.assertEqual(s.log(), [("in", "close"), ("out", "close")])


class EarlierStatesTest(unittest.TestCase):
    def made(self):
        s = Shelf((3, 1, 2))
        s.close(0)
        s.add(9)
        s.close_all([2, 1])
        s.take_out(0)
        return s

    def test_every_number(self):
        chance = random.Random(6)
        for row in rows():
            shelf, state = Shelf(row), State(row)
            for name, value in led_on(chance, state, 20):
                operate(self, shelf, state, name, value)
            for many in range(shelf.operations() + 1):
                found, wanted = shelf.as_of(many), State(row)
                wanted.states = list(state.states[:many + 1])
                check_queries(self, found, wanted)
                while found.undo():
                    wanted.undo(None)
                    wanted.notes = found.log()
                    check_queries(self, found, wanted)
            check_queries(self, shelf, state)

    def test_no_such_state(self):
        s = self.made()
        for many in [-1, -2, -4, -5, 5, 6, HUGE, -HUGE]:
            check_error(self, NoState, {"many": many}, s.as_of, many)
        for many in [-1, 1, HUGE]:
            check_error(self, NoState, {"many": many}, Shelf(ROW).as_of, many)

    def test_undone_operations_are_no_states(self):
        s = self.made()
        s.undo()
        check_error(self, NoState, {"many": 4}, s.as_of, 4)
        self.assertEqual(s.as_of(3), s)

    def test_twin(self):
        s = self.made()
        twin = s.twin()
        self.assertEqual(twin, s)
        self.assertIsNot(twin, s)
        self.assertEqual((twin.operations(), twin.log()), (4, []))

    def test_led_on_without_influence(self):
        chance = random.Random(7)
        for row in rows():
            shelf, state = Shelf(row), State(row)
            for name, value in led_on(chance, state, 12):
                operate(self, shelf, state, name, value)
            many = len(state.states) // 2
            pairs = [(shelf, state)]
            for other, length in [(shelf.twin(), len(state.states)), (shelf.as_of(many), many + 1)]:
                beside = State(row)
                beside.states = list(state.states[:length])
                pairs.append((other, beside))
            for _ in range(12):
                for one, beside in pairs:
                    for name, value in led_on(chance, beside, 1):
                        operate(self, one, beside, name, value)
                for one, beside in pairs:
                    check_queries(self, one, beside)


class EqualityTest(unittest.TestCase):
    def test_shelfs(self):
        self.assertIs(Shelf(ROW) == Shelf(list(ROW)), True)
        self.assertIs(Shelf(ROW) != Shelf(ROW), False)
        self.assertIs(Shelf(ROW) == Shelf(ROW[:3]), False)
        self.assertIs(Shelf(ROW) == Shelf((2, 4, 1, 5)), False)
        one, other = Shelf(ROW), Shelf(ROW)
        one.close_all([0, 2])
        self.assertIs(one == other, False)
        other.close(0)
        other.close(2)
        self.assertIs(one == other, True)
        other.undo()
        other.undo()
        other.close_all([2, 0])
        self.assertEqual(one.nesting(), other.nesting())
        self.assertIs(one == other, False)
        self.assertIs(one != other, True)

    def test_the_way_does_not_matter(self):
        one, other = Shelf(ROW), Shelf(ROW[:3])
        other.add(3)
        self.assertIs(one == other, True)
        other.undo()
        self.assertIs(one == other, False)

    def test_other_values(self):
        for thing in [ROW, list(ROW), [], None, 4, "Shelf(4 boxes, 4 outer)", (ROW, []), [ROW, []], Shelf]:
            self.assertIs(Shelf(ROW) == thing, False)
            self.assertIs(thing == Shelf(ROW), False)
            self.assertIs(Shelf(ROW) != thing, True)

    def test_len_and_repr(self):
        self.assertEqual((len(Shelf((7,))), repr(Shelf((7,)))), (1, "Shelf(1 boxes, 1 outer)"))
        s = Shelf(TWELVE)
        s.close_all(range(11))
        self.assertEqual((len(s), repr(s)), (12, "Shelf(12 boxes, 1 outer)"))


class CopiesTest(unittest.TestCase):
    def test_changed_results(self):
        s = Shelf(ROW)
        s.close_all([2, 0])
        for name in ["history", "open_gaps", "steps", "log"]:
            check_fresh(self, getattr(s, name))
        self.assertIsNot(s.history(), s.twin().history())
        s.twin().history().append(1)
        self.assertEqual(s.history(), [2, 0])

    def test_changed_arguments(self):
        row, gaps = list(ROW), [2, 0]
        s = Shelf(row)
        s.close_all(gaps)
        row.append(9)
        row[0] = 7
        gaps.append(1)
        self.assertEqual((s.row(), s.history(), len(s)), (ROW, [2, 0], 4))
        self.assertEqual(s.as_of(0).row(), ROW)

    def test_arguments_do_not_change(self):
        row, gaps = list(ROW), [2, 0]
        s = Shelf(row)
        s.close_all(gaps)
        s.add(9)
        s.take_out(0)
        s.undo()
        self.assertEqual((row, gaps), (list(ROW), [2, 0]))

    def test_rows_of_lists(self):
        for row in [[7], list(ROW), list(TWELVE)]:
            s = Shelf(row)
            self.assertEqual(repr_of(s.row()), repr_of(tuple(row)))
            self.assertEqual(s, Shelf(tuple(row)))
            self.assertEqual(repr_of(s.as_of(0).row()), repr_of(tuple(row)))

    def test_results_passed_in_again(self):
        s = Shelf(ROW)
        s.close_all([1, 0])
        other = Shelf(s.row())
        other.close_all(s.history())
        self.assertEqual(other, s)
        other.close_all(other.open_gaps())
        self.assertEqual(other.open_gaps(), [])


if __name__ == "__main__":
    unittest.main()
