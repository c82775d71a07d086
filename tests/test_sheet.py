"""Sheets (points 1, 2 and 15)."""

import inspect
import random
import re
import unittest

from cases import ROW, TWELVE, check_error, check_fresh
from putinside import sheet
from putinside.chances import holder_chance
from putinside.counting import count_nestings
from putinside.depths import greatest_depth
from putinside.errors import BadLine
from putinside.nestings import holders
from putinside.shelf import Shelf
from putinside.sheet import answers
from putinside.texts import history_text, nesting_text

NUMBER = "(0|[1-9][0-9]{0,9})"
PATTERNS = [
    "undo|show|history|open|count|nestings",
    f"(close|take|holders|depth) {NUMBER}",
    "add [1-9][0-9]{0,9}",
    f"chance {NUMBER} {NUMBER}",
]


def is_line(line):
    """Whether a line behind the first one is written as it should be, by patterns."""
    if re.fullmatch(f"all (-|{NUMBER}( {NUMBER})*)", line):
        gaps = line.split()[1:]
        return len(set(gaps)) == len(gaps)
    return any(re.fullmatch(pattern, line) for pattern in PATTERNS)


def answer_by_reading(shelf, line):
    """The answer to a line, from the words of point 15."""
    word, *rest = line.split()
    numbers = [int(one) for one in rest if one != "-"]
    row = shelf.row()
    try:
        return {
            "close": lambda: "{} {}".format(*shelf.close(*numbers)),
            "all": lambda: shelf.close_all(numbers) or "done",
            "take": lambda: str(shelf.take_out(*numbers)),
            "add": lambda: str(shelf.add(*numbers)),
            "undo": lambda: {True: "yes", False: "no"}[shelf.undo()],
            "show": lambda: nesting_text(shelf.nesting()),
            "history": lambda: history_text(shelf.history()),
            "open": lambda: " ".join(map(str, shelf.open_gaps())) or "-",
            "count": lambda: str(shelf.count()),
            "nestings": lambda: str(count_nestings(row)),
            "holders": lambda: " ".join(map(str, holders(row, *numbers))) or "-",
            "chance": lambda: "{}/{}".format(*holder_chance(row, *numbers)),
            "depth": lambda: str(greatest_depth(row, *numbers)),
        }[word]()
    except Exception as error:
        return "error " + type(error).__name__


def some_line(chance):
    word = chance.choice(["close", "close", "close", "all", "take", "take", "add", "undo", "show", "history", "open",
                          "count", "nestings", "holders", "chance", "depth"])
    if word == "all":
        return "all " + (" ".join(map(str, chance.sample(range(6), chance.randrange(4)))) or "-")
    if word == "add":
        return f"add {chance.randrange(1, 30)}"
    if word == "chance":
        return f"chance {chance.randrange(7)} {chance.randrange(7)}"
    if word in ["close", "take", "holders", "depth"]:
        return f"{word} {chance.randrange(7)}"
    return word


ALL_LINES = ["close 2", "all 0 1", "all -", "take 2", "add 9", "undo", "show", "history", "open", "count", "nestings",
             "holders 2", "chance 2 3", "depth 2"]
WRONG_LINES = [
    "", " ", "-", ".", "row", "row 1 2", "close", "close ", "close  2", " close 2", "close 2 ", "close 02", "close -1",
    "close -", "close 2 3", "close a", "close\t2", "close +2", "close 2.", "close 10000000000", "Close 2", "closed 2",
    "all", "all ", "all  -", "all - ", "all --", "all 0 0", "all 2 1 2", "all 0  1", "all 0 1 ", "all 0,1", "all 0 -",
    "all - 0", "all 01", "all -1", "all .", "take", "take ", "take 1 2", "take x", "take 01", "add", "add 0", "add -1",
    "add 01", "add 1 2", "add 10000000000", "add ", "add 9 ", "undo ", " undo", "undo 1", "undone", "show ", "show 1",
    "history -", "history ", "open 0", "opens", "count 1", "count ", "nestings 2", "nesting", "holders", "holders 1 2",
    "holders ", "chance", "chance 1", "chance 1 2 3", "chance 1  2", "chance 1 -", "chance 1/2", "chance 1 02", "depth",
    "depth ", "depth 1 1", "depth .", "twin", "as_of 0", "log", "\t", "close 2\r", "undo\t",
]


class InterfaceTest(unittest.TestCase):
    def test_name_and_parameter(self):
        self.assertEqual(list(inspect.signature(answers).parameters), ["text"])
        self.assertEqual(answers.__module__, "putinside.sheet")
        self.assertIs(sheet.answers, answers)
        self.assertEqual(answers(text="row 2 4 1 3\nshow"), [". . . ."])

    def test_examples_of_the_document(self):
        text = "row 2 4 1 3\nclose 2\nall 0 1\nshow\nclose 2\nchance 2 3\ntake 2\ntake 3\nopen"
        self.assertEqual(answers(text), ["2 3", "done", "1 . 3 1", "error Closed", "1/2", "error Stuck", "1", "1"])
        check_error(self, BadLine, {"number": 0}, answers, "row 2 2")


class AnswersTest(unittest.TestCase):
    def test_every_kind_of_line(self):
        text = "\n".join(["row 2 4 1 3"] + ALL_LINES)
        self.assertEqual(answers(text), ["2 3", "done", "done", "error Stuck", "4", "yes", "1 . 3 1", "2 0 1", "-", "3",
                                         "2", "1 3", "1/2", "2"])

    def test_nothing_closed(self):
        self.assertEqual(answers("row 7\nshow\nhistory\nopen\ncount\nnestings\nholders 0\nchance 0 0\ndepth 0\nundo"),
                         [".", "-", "-", "1", "1", "-", "0/1", "0", "no"])

    def test_the_row_grows(self):
        lines = ["row 1 2", "nestings", "add 3", "nestings", "holders 0", "close 0", "close 1", "show"]
        lines += ["undo"] * 4 + ["nestings"]
        self.assertEqual(answers("\n".join(lines)),
                         ["1", "2", "2", "1 2", "0 1", "1 2", "1 2 .", "yes", "yes", "yes", "no", "1"])

    def test_the_first_line_alone(self):
        for text in ["row 1", "row 2 4 1 3", "row 1000000000", "row " + " ".join(map(str, TWELVE))]:
            self.assertEqual(answers(text), [])

    def test_errors_are_answers(self):
        for lines, error in [
            ("close 3", "NoGap"), ("close 9999999999", "NoGap"), ("close 0\nclose 0", "Closed"), ("all 0 3", "NoGap"),
            ("close 1\nall 0 1", "Closed"), ("take 4", "NoBox"), ("take 0", "Outer"), ("all 2 1\ntake 2", "Stuck"),
            ("add 4", "Duplicate"), ("holders 4", "NoBox"), ("chance 4 0", "NoBox"), ("chance 0 4", "NoBox"),
            ("depth 4", "NoBox"),
        ]:
            self.assertEqual(answers("row 2 4 1 3\n" + lines)[-1], "error " + error)
        full = "row " + " ".join(map(str, TWELVE))
        self.assertEqual(answers(full + "\nadd 13\nadd 12\nundo"), ["error Full", "error Duplicate", "no"])

    def test_a_failed_line_changes_nothing(self):
        self.assertEqual(answers("row 2 4 1 3\nclose 1\nall 0 2 1\nhistory\nadd 3\nundo\nundo"),
                         ["2 1", "error Closed", "1", "error Duplicate", "yes", "no"])

    def test_large_sizes_are_added(self):
        self.assertEqual(answers("row 1\nadd 1000000000\nadd 9999999999\nclose 1\nshow"), ["1", "2", "1 2", ". 2 ."])

    def test_beside_a_shelf(self):
        chance = random.Random(9)
        for row in [ROW, (7,), (1, 2, 3, 4, 5), (9, 8, 3, 4, 5, 7, 6), TWELVE]:
            for _ in range(20):
                lines = [some_line(chance) for _ in range(59)]
                shelf = Shelf(row)
                wanted = [answer_by_reading(shelf, line) for line in lines]
                self.assertEqual(answers("row " + " ".join(map(str, row)) + "\n" + "\n".join(lines)), wanted)

    def test_new_list_and_new_shelf_each_time(self):
        check_fresh(self, answers, "row 2 4 1 3\nclose 2\nundo\nundo")
        self.assertEqual(answers("row 2 4 1 3\nshow"), [". . . ."])


class WrongLinesTest(unittest.TestCase):
    def test_wrong_lines(self):
        for line in WRONG_LINES:
            self.assertIs(is_line(line), False)
            check_error(self, BadLine, {"number": 1}, answers, "row 2 4 1 3\n" + line)
            check_error(self, BadLine, {"number": 3}, answers, f"row 2 4 1 3\nclose 2\nshow\n{line}\nundo")

    def test_the_first_wrong_line(self):
        check_error(self, BadLine, {"number": 2}, answers, "row 2 4 1 3\nshow\n\nclose\nshow\nbad")
        check_error(self, BadLine, {"number": 0}, answers, "row 2 2\nclose\nbad")
        check_error(self, BadLine, {"number": 0}, answers, "\nrow 2 4 1 3")

    def test_behind_lines_that_raise_errors(self):
        text = "row 2 4 1 3\nclose 9\ntake 0\nadd 4\nall 7\nholders 9\n"
        check_error(self, BadLine, {"number": 6}, answers, text + "close")
        self.assertEqual(answers(text + "show"), ["error NoGap", "error Outer", "error Duplicate", "error NoGap",
                                                  "error NoBox", ". . . ."])

    def test_empty_lines(self):
        for text, number in [("row 1\n", 1), ("row 1\nshow\n", 2), ("row 1\n\nshow", 1), ("row 1\n\n", 1), ("", 0),
                             ("\n", 0), ("row 1\nshow\n\n", 2)]:
            check_error(self, BadLine, {"number": number}, answers, text)

    def test_wrong_first_lines(self):
        for line in ["", " ", "row", "row ", "row  1", " row 1", "row 1 ", "row 0", "row 1 0", "row 1 1", "row 01",
                     "row 1  2", "row -", "row .", "row -1", "row a", "row 1,2", "Row 1", "rows 1", "1 2", "row\t1",
                     "row 1\t", "show", "close 0", "row 1 2 a", "row 10000000000", "row1", "all 0 1"]:
            check_error(self, BadLine, {"number": 0}, answers, line)
            check_error(self, BadLine, {"number": 0}, answers, line + "\nshow")

    def test_rows_beyond_the_bounds(self):
        twelve = "row " + " ".join(map(str, range(1, 13)))
        self.assertEqual(answers(twelve), [])
        check_error(self, BadLine, {"number": 0}, answers, twelve + " 13")
        self.assertEqual(answers("row 1000000000 1"), [])
        check_error(self, BadLine, {"number": 0}, answers, "row 1000000001")
        check_error(self, BadLine, {"number": 0}, answers, "row 1 1000000001 2\nshow")

    def test_signs_changed(self):
        chance = random.Random(10)
        for line in ALL_LINES * 25:
            for _ in range(chance.randrange(1, 4)):
                at = chance.randrange(len(line) + 1)
                sign = chance.choice("0123456789  -.\tacelnostuw")
                line = line[:at] + chance.choice(["", sign]) + line[at + chance.randrange(2):]
            if is_line(line):
                self.assertEqual(answers("row 2 4 1 3\n" + line), [answer_by_reading(Shelf(ROW), line)])
            else:
                check_error(self, BadLine, {"number": 1}, answers, "row 2 4 1 3\n" + line)


if __name__ == "__main__":
    unittest.main()
