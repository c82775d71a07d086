"""Texts of rows, histories and nestings: numbers and signs, with one blank between them."""

from putinside.errors import BadText
from putinside.nestings import is_nesting
from putinside.rows import is_history, is_row

MOST_DIGITS = 10


def row_text(row):
    """The text of the ROW."""
    return " ".join([str(size) for size in row])


def history_text(history):
    """The text of the HISTORY."""
    if not history:
        return "-"
    return " ".join([str(gap) for gap in history])


def nesting_text(nesting):
    """The text of the NESTING."""
    return " ".join(["." if above is None else str(above) for above in nesting])


def number_in(word):
    """The number that is written so, None if none is."""
    if not 1 <= len(word) <= MOST_DIGITS:
        return None
    if not all([sign in "0123456789" for sign in word]):
        return None
    if word[0] == "0" and word != "0":
        return None
    return int(word)


def numbers_in(text):
    """The list of numbers that is written as the sizes of a ROW are, None if none is."""
    numbers = [number_in(word) for word in text.split(" ")]
    return None if None in numbers else numbers


def gaps_in(text):
    """The list of numbers that is written as the gaps of a HISTORY are, None if none is."""
    return [] if text == "-" else numbers_in(text)


def row_written(text):
    """The ROW with that text, None if there is none."""
    sizes = numbers_in(text)
    if sizes is None or not is_row(tuple(sizes)):
        return None
    return tuple(sizes)


def row_in(text):
    """The ROW with that text."""
    row = row_written(text)
    if row is None:
        raise BadText(text)
    return row


def history_in(row, text):
    """The HISTORY of the ROW with that text."""
    history = gaps_in(text)
    if history is None or not is_history(row, history):
        raise BadText(text)
    return history


def nesting_in(row, text):
    """The NESTING of the ROW with that text."""
    entries = []
    for word in text.split(" "):
        above = None if word == "." else number_in(word)
        if above is None and word != ".":
            raise BadText(text)
        entries.append(above)
    if not is_nesting(row, tuple(entries)):
        raise BadText(text)
    return tuple(entries)
