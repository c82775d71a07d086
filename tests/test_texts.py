"""Texts (points 1, 2 and 14)."""

import inspect
import random
import re
import unittest

from cases import (LONG_ROWS, ROW, TWELVE, cases_of_every_length, check_arguments, check_error, check_fresh,
                   histories_of, long_cases, nesting_of, repr_of, small_rows)
from putinside import texts
from putinside.counting import count_nestings
from putinside.errors import BadText
from putinside.nestings import is_nesting
from putinside.rows import is_history, is_row
from putinside.texts import history_in, history_text, nesting_in, nesting_text, row_in, row_text

WORDS = {
    "row_text": ["row"], "history_text": ["history"], "nesting_text": ["nesting"],
    "row_in": ["text"], "history_in": ["row", "text"], "nesting_in": ["row", "text"],
}

NUMBER = "(0|[1-9][0-9]{0,9})"
ENTRY = r"(\.|0|[1-9][0-9]{0,9})"
ASCII = "".join(chr(code) for code in range(128))


def row_read(text):
    """The row with that text, None if there is none, by a pattern."""
    if not re.fullmatch(f"{NUMBER}( {NUMBER})*", text):
        return None
    row = tuple(int(word) for word in text.split())
    return row if len(set(row)) == len(row) and min(row) > 0 else None


def history_read(row, text):
    if text == "-":
        return []
    if not re.fullmatch(f"{NUMBER}( {NUMBER})*", text):
        return None
    history = [int(word) for word in text.split()]
    return history if len(set(history)) == len(history) and max(history) < len(row) - 1 else None


def nesting_read(row, text):
    if not re.fullmatch(f"{ENTRY}( {ENTRY})*", text):
        return None
    nesting = tuple(None if word == "." else int(word) for word in text.split())
    return nesting if is_nesting(row, nesting) else None


def with_signs_changed(chance, text):
    """The text with one to three signs left out, put in, or changed for others."""
    for _ in range(chance.randrange(1, 4)):
        at = chance.randrange(len(text) + 1)
        sign = chance.choice("0123456789  --.. \t\n" + chance.choice(ASCII))
        text = text[:at] + chance.choice(["", sign]) + text[at + chance.randrange(2):]
    return text


class InterfaceTest(unittest.TestCase):
    def test_names_and_parameters(self):
        for name, words in WORDS.items():
            with self.subTest(name):
                self.assertEqual(list(inspect.signature(getattr(texts, name)).parameters), words)
                self.assertEqual(getattr(texts, name).__module__, "putinside.texts")

    def test_examples_of_the_document(self):
        self.assertEqual(row_text((2, 4, 1, 3)), "2 4 1 3")
        self.assertEqual(history_text([]), "-")
        self.assertEqual(nesting_text((1, None, 3, 1)), "1 . 3 1")
        self.assertEqual(nesting_in(ROW, "1 . 1 1"), (1, None, 1, 1))
        check_error(self, BadText, {"text": ". . 0 ."}, nesting_in, ROW, ". . 0 .")


class ReadingTest(unittest.TestCase):
    """Texts that are read back, and texts that are not quite so, beside patterns."""

    def check_text(self, function, wanted, *arguments):
        if wanted is None:
            check_error(self, BadText, {"text": arguments[-1]}, function, *arguments)
        else:
            self.assertEqual(repr_of(function(*arguments)), repr_of(wanted))

    def test_written_and_read_back(self):
        for row in small_rows():
            self.assertEqual(repr_of(row_in(row_text(row))), repr_of(row))
            for history in histories_of(row):
                self.assertEqual(repr_of(history_in(row, history_text(history))), repr_of(history))
                nesting = nesting_of(row, history)
                self.assertEqual(repr_of(nesting_in(row, nesting_text(nesting))), repr_of(nesting))

    def test_longer_ones(self):
        for row, history in list(long_cases()) + list(cases_of_every_length()):
            self.assertEqual(repr_of(row_in(row_text(row))), repr_of(row))
            self.assertEqual(repr_of(history_in(row, history_text(history))), repr_of(history))
            nesting = nesting_of(row, history)
            self.assertEqual(repr_of(nesting_in(row, nesting_text(nesting))), repr_of(nesting))

    def test_signs_changed(self):
        chance = random.Random(8)
        good, bad = 0, 0
        for row, history in list(long_cases())[::3] + [(ROW, [2, 0]), ((7,), []), ((10, 20), [0])] * 20:
            for _ in range(6):
                text = with_signs_changed(chance, row_text(row))
                self.check_text(row_in, row_read(text), text)
                good, bad = good + (row_read(text) is not None), bad + (row_read(text) is None)
                text = with_signs_changed(chance, history_text(history))
                self.check_text(history_in, history_read(row, text), row, text)
                text = with_signs_changed(chance, nesting_text(nesting_of(row, history)))
                self.check_text(nesting_in, nesting_read(row, text), row, text)
        self.assertGreater(good, 50)
        self.assertGreater(bad, 50)

    def test_short_texts(self):
        signs = "012 -.\n9"
        short = [""] + [one + other for one in [""] + list(signs) for other in signs]
        short += [one + other for one in short[1:] for other in signs]
        for text in short:
            self.check_text(row_in, row_read(text), text)
            self.check_text(history_in, history_read(ROW, text), ROW, text)
            for row in [(7,), (1, 2), (2, 1)]:
                self.check_text(history_in, history_read(row, text), row, text)
                self.check_text(nesting_in, nesting_read(row, text), row, text)


class WritingTest(unittest.TestCase):
    def test_rows(self):
        self.assertEqual(row_text((7,)), "7")
        self.assertEqual(row_text((10 ** 9, 1)), "1000000000 1")
        self.assertEqual(row_text(TWELVE), "5 12 1 8 3 10 2 7 11 4 9 6")
        self.assertEqual(row_text((10 ** 10, 5)), "10000000000 5")

    def test_histories(self):
        self.assertEqual(history_text([0]), "0")
        self.assertEqual(history_text([10, 2, 0]), "10 2 0")
        self.assertEqual(history_text(()), "-")

    def test_nestings(self):
        self.assertEqual(nesting_text((None,)), ".")
        self.assertEqual(nesting_text((None, None, 0)), ". . 0")
        self.assertEqual(nesting_text((11,) * 11 + (None,)), "11 " * 11 + ".")


class BadTextsTest(unittest.TestCase):
    def check_bad(self, function, *arguments):
        check_error(self, BadText, {"text": arguments[-1]}, function, *arguments)

    def test_blanks(self):
        for text in ["", " ", "  ", " 2 4", "2 4 ", "2  4", "\t2 4", "2\t4", "2 4\t", "2 4\n", "\n2 4", "2\n4", "2 \t4",
                     "2\r4", "2 4\r", "2\x0b4", "2\x0c4", "2\x1f4", "2 \x004", "2 4\x7f"]:
            self.check_bad(row_in, text)
            self.check_bad(history_in, LONG_ROWS[0], text)
            self.check_bad(nesting_in, (1, 2), text.replace("2", "1").replace("4", "."))

    def test_leading_zeroes(self):
        for text in ["02", "2 04", "00", "00 1", "2 00", "01", "0000000001"]:
            self.check_bad(row_in, text)
            self.check_bad(history_in, LONG_ROWS[0], text)
        self.check_bad(history_in, ROW, "00")
        self.check_bad(nesting_in, (2, 1), ". 00")
        self.assertEqual(nesting_in((2, 1), ". 0"), (None, 0))
        self.assertEqual(history_in(ROW, "0"), [0])

    def test_more_than_ten_digits(self):
        self.assertEqual(row_in("9999999999"), (9999999999,))
        self.assertEqual(row_in("1 1000000000"), (1, 10 ** 9))
        for text in ["10000000000", "99999999999", "1 10000000000", "00000000001", "9" * 5000]:
            self.check_bad(row_in, text)
            self.check_bad(history_in, ROW, text)
            self.check_bad(nesting_in, (1, 2), text + " .")

    def test_signs_that_do_not_belong(self):
        for text in ["-", ".", "2 .", "2 -", "-2", "+2", "2.", "2.0", "2_0", "2,4", "2;4", "a", "2 a", "0x2", "1e3",
                     "2 4-"]:
            self.check_bad(row_in, text)
        for text in [".", "0 .", "0 -", "- 0", "--", "- ", " -", "-\n", "-0", "0.", "+0"]:
            self.check_bad(history_in, ROW, text)
        for text in ["-", "1 -", "- .", "..", "1 ..", "1.", "1 . .", ".1 .", "1 .\n"]:
            self.check_bad(nesting_in, (1, 2), text)

    def test_no_rows(self):
        for text in ["0", "0 1", "1 0", "2 2", "1 2 1", "9999999999 9999999999"]:
            self.check_bad(row_in, text)

    def test_no_histories(self):
        for text in ["3", "0 3", "0 0", "2 1 2", "9999999999"]:
            self.check_bad(history_in, ROW, text)
        self.check_bad(history_in, (7,), "0")
        self.assertEqual(history_in((7,), "-"), [])

    def test_no_nestings(self):
        for text in [". .", ". . .", ". . . . .", "0 . . .", "4 . . .", "2 . . .", "3 . . .", "1 1 1 1", "1 . 0 1"]:
            self.check_bad(nesting_in, ROW, text)
        self.check_bad(nesting_in, (1, 2, 3), "2 . .")
        self.check_bad(nesting_in, (7,), "0")
        self.assertEqual(nesting_in((7,), "."), (None,))


class BeyondTheBoundsTest(unittest.TestCase):
    def test_rows_of_more_than_twelve_boxes(self):
        for many in [13, 40, 1000]:
            row = tuple(range(1, many + 1))
            self.assertEqual(row_in(row_text(row)), row)
            chain = tuple(range(1, many)) + (None,)
            self.assertEqual(nesting_in(row, nesting_text(chain)), chain)
            flat = (many - 1,) * (many - 1) + (None,)
            self.assertEqual(nesting_in(row, nesting_text(flat)), flat)
            gaps = list(range(many - 2, -1, -1))
            self.assertEqual(history_in(row, history_text(gaps)), gaps)
            check_error(self, BadText, {"text": row_text(row)}, nesting_in, row, row_text(row))

    def test_what_was_read_is_passed_in_again(self):
        row = row_in("9999999999 " + " ".join(str(size) for size in range(1, 30)))
        self.assertIs(is_row(row), True)
        self.assertIs(is_history(row, history_in(row, "28 0 3")), True)
        self.assertGreater(count_nestings(row), 10 ** 12)


class ArgumentsTest(unittest.TestCase):
    """Point 2."""

    def test_kinds_and_names(self):
        calls = [
            ("row_text", [ROW]), ("history_text", [[2, 0]]), ("history_text", [[]]),
            ("nesting_text", [(1, None, 3, 1)]), ("row_in", ["2 4 1 3"]),
            ("history_in", [ROW, "2 0"]), ("history_in", [ROW, "-"]), ("nesting_in", [ROW, "1 . 3 1"]),
        ]
        self.assertEqual({name for name, _ in calls}, set(WORDS))
        for name, values in calls:
            with self.subTest(name):
                check_arguments(self, getattr(texts, name), WORDS[name], values)

    def test_changed_results(self):
        check_fresh(self, history_in, ROW, "2 0")
        check_fresh(self, history_in, ROW, "-")


if __name__ == "__main__":
    unittest.main()
