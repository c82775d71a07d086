"""Each example of the document, and its interface as a whole (point 16)."""

import importlib
import inspect
import os
import unittest

import putinside

FUNCTIONS = {
    "rows": ["is_row(thing)", "is_history(row, thing)", "outer_boxes(row, history)", "moves(row, history)"],
    "nestings": [
        "nesting_after(row, history)", "is_nesting(row, thing)", "evidence(row, claim)",
        "shows_evidence(row, claim, thing)", "inside(row, nesting, place)", "around(row, nesting, place)",
        "stretch(row, nesting, place)", "holders(row, place)"],
    "histories": [
        "gap_of(row, nesting, place)", "needed(row, nesting, place)", "count_histories(row, nesting)",
        "history_at(row, nesting, number)", "history_number(row, history)", "all_histories(row, nesting)"],
    "same": [
        "same_nesting(row, one, other)", "free_exchanges(row, history)", "exchanged(row, history, index)",
        "exchanges_apart(row, one, other)", "exchange_plan(row, one, other)",
        "shows_exchange_plan(row, one, other, thing)"],
    "counting": [
        "count_nestings(row)", "count_with(row, claim)", "count_outer(row, many)", "nesting_at(row, number)",
        "nesting_number(row, nesting)", "all_nestings(row)"],
    "chances": [
        "holder_chance(row, one, other)", "around_chance(row, one, other)", "mean_depth(row, place)",
        "mean_inside(row, place)", "together_chance(row, one, other, many)"],
    "changes": [
        "steps(row, nesting)", "after_step(row, nesting, step)", "steps_apart(row, one, other)",
        "step_plan(row, one, other)", "shows_step_plan(row, one, other, thing)"],
    "depths": ["greatest_depth(row, place)", "deep_history(row, place)", "fewest_moves(row, one, other)"],
    "shelf": ["Shelf(row)"],
    "texts": ["row_text(row)", "history_text(history)", "nesting_text(nesting)", "row_in(text)",
              "history_in(row, text)", "nesting_in(row, text)"],
    "sheet": ["answers(text)"],
}

# What stands behind >>> in the document, and the line below it.
EXAMPLES = [
    ("is_row((2, 4, 1, 3)), is_row((2, 2)), is_history((2, 4, 1, 3), [1, 2])", "(True, False, True)"),
    ("outer_boxes(row, [2]), moves(row, [2, 0, 1])",
     "([(0, 0, 0), (1, 1, 1), (2, 3, 3)], [(2, 3), (0, 1), (3, 1)])"),
    ("nesting_after(row, [2, 0, 1]), is_nesting(row, (1, None, 3, 1)), evidence((2, 1, 3, 4), (2, 2, 3, None))",
     "((1, None, 3, 1), True, None)"),
    ("evidence((2, 3, 1, 4), (2, None, None, None)), evidence((1, 2, 3), (2, None, None))",
     "(('small', 0), ('apart', 2))"),
    ("inside(row, (1, None, 3, 1), 1), around(row, (1, None, 3, 1), 2), stretch(row, (1, None, 3, 1), 3)",
     "((0, 2, 3), [3, 1], (2, 3))"),
    ("holders(row, 2), holders(row, 0), holders(row, 1)", "([1, 3], [1], [])"),
    ("holders(row, 4)", "raises NoBox(place=4)"),
    ("gap_of(row, (1, None, 3, 1), 3), needed(row, (1, None, 3, 1), 3), needed(row, (1, None, 1, 1), 3)",
     "(1, (2,), (2,))"),
    ("count_histories(row, (1, None, 3, 1)), all_histories(row, (1, None, 3, 1))",
     "(3, [[0, 2, 1], [2, 0, 1], [2, 1, 0]])"),
    ("history_at(row, (1, None, 1, 1), 2), history_number(row, [2, 0, 1])", "([1, 2, 0], 1)"),
    ("gap_of(row, (1, None, 3, 1), 1)", "raises Outer(place=1)"),
    ("same_nesting(row, [2, 0, 1], [2, 1, 0]), same_nesting(row, [2, 0, 1], [1, 0, 2])", "(True, False)"),
    ("free_exchanges(row, [2, 0, 1]), exchanged(row, [2, 0, 1], 0), exchanges_apart(row, [0, 2, 1], [2, 1, 0])",
     "([0, 1], [0, 2, 1], 2)"),
    ("exchanged(row, [0, 2, 1], 1)", "raises Blocked(index=1)"),
    ("shows_exchange_plan(row, [0, 2, 1], [2, 1, 0], [0, 1]), exchange_plan(row, [0, 2, 1], [0, 2, 1])",
     "(True, [])"),
    ("count_nestings(row), count_nestings((1, 2, 3, 4)), count_with((1, 2, 3, 4), (3, None, None, None)), "
     "count_outer(row, 4)", "(2, 5, 2, 1)"),
    ("nesting_at(row, 1), nesting_number(row, (1, None, 1, 1)), all_nestings((1, 2, 3))",
     "((1, None, 3, 1), 0, [(1, 2, None), (2, 2, None)])"),
    ("nesting_number(row, (1, None, None, None))", "raises NotFull(many=3)"),
    ("holder_chance(row, 2, 3), holder_chance((1, 2, 3), 0, 2), holder_chance(row, 0, 3), around_chance(row, 2, 1)",
     "((1, 2), (1, 2), (0, 1), (1, 1))"),
    ("mean_depth(row, 2), mean_inside(row, 3), together_chance(row, 0, 2, 2)", "((3, 2), (1, 2), (1, 3))"),
    ("steps(row, (1, None, 1, 1)), after_step(row, (1, None, 1, 1), ('take', 3))",
     "([('take', 0), ('take', 3)], (1, None, 1, None))"),
    ("steps_apart(row, (1, None, 1, 1), (1, None, 3, 1))", "4"),
    ("shows_step_plan(row, (1, None, 1, 1), (1, None, 3, 1), "
     "[('take', 3), ('take', 2), ('put', 2), ('put', 1)])", "True"),
    ("after_step(row, (1, None, 1, 1), ('take', 2))", "raises Stuck(place=2)"),
    ("greatest_depth(row, 2), greatest_depth(row, 1), fewest_moves(row, 0, 1), fewest_moves(row, 2, 0)",
     "(2, 0, 1, None)"),
    ("s.close(2), s.close(1), s.nesting(), s.open_gaps(), s.count()",
     "((2, 3), (3, 1), (None, None, 3, 1), [0], 1)"),
    ("s.take_out(3), s.history(), s.add(9), repr(s)", "(1, [2], 4, 'Shelf(5 boxes, 4 outer)')"),
    ("s.take_out(1)", "raises Outer(place=1)"),
    ("s.undo(), s.undo(), s.nesting(), s.operations()", "(True, True, (None, None, 3, 1), 2)"),
    ("row_text((2, 4, 1, 3)), history_text([]), nesting_text((1, None, 3, 1)), nesting_in(row, '1 . 1 1')",
     "('2 4 1 3', '-', '1 . 3 1', (1, None, 1, 1))"),
    ("nesting_in(row, '. . 0 .')", "raises BadText(text='. . 0 .')"),
    ("answers('row 2 4 1 3\\nclose 2\\nall 0 1\\nshow\\nclose 2\\nchance 2 3\\ntake 2\\ntake 3\\nopen')",
     "['2 3', 'done', '1 . 3 1', 'error Closed', '1/2', 'error Stuck', '1', '1']"),
    ("answers('row 2 2')", "raises BadLine(number=0)"),
]


def module(name):
    return importlib.import_module("putinside." + name)


def all_names():
    """All functions and classes of the interface by their names."""
    return {text.split("(")[0]: getattr(module(name), text.split("(")[0])
            for name, texts in FUNCTIONS.items() for text in texts}


def outcome(text, names):
    """What the document would print below the example."""
    try:
        return repr(eval(text, names))
    except Exception as error:
        values = ", ".join(f"{word}={value!r}" for word, value in vars(error).items())
        return f"raises {type(error).__name__}({values})"


class ExamplesTest(unittest.TestCase):
    def test_each_example_in_turn(self):
        names = dict(all_names(), row=(2, 4, 1, 3))
        names["s"] = names["Shelf"](names["row"])
        for text, wanted in EXAMPLES:
            with self.subTest(text):
                self.assertEqual(outcome(text, names), wanted)


class InterfaceTest(unittest.TestCase):
    def test_names_parameters_and_files(self):
        for name, texts in FUNCTIONS.items():
            for text in texts:
                with self.subTest(text):
                    word = text.split("(")[0]
                    found = getattr(module(name), word)
                    self.assertEqual(word + str(inspect.signature(found)), text)
                    self.assertEqual(found.__module__, "putinside." + name)

    def test_the_folder_holds_nothing_but_the_files_of_the_package(self):
        folder = os.path.dirname(os.path.abspath(putinside.__file__))
        for name in os.listdir(folder):
            if name != "__pycache__":
                self.assertTrue(name.endswith(".py"), name)
                self.assertFalse(name.startswith("test"), name)


if __name__ == "__main__":
    unittest.main()
