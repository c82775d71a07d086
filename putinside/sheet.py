"""Sheets: texts whose lines operate on a shelf, or ask about it."""

from putinside.chances import holder_chance
from putinside.counting import count_nestings
from putinside.depths import greatest_depth
from putinside.errors import BadLine, Closed, Duplicate, Full, NoBox, NoGap, Outer, Stuck
from putinside.limits import MOST_BOXES, MOST_SIZE
from putinside.nestings import holders
from putinside.rows import are_different_numbers
from putinside.shelf import Shelf
from putinside.texts import gaps_in, history_text, nesting_text, numbers_in, row_written


def close_answer(shelf, numbers):
    one, other = shelf.close(numbers[0])
    return f"{one} {other}"


def all_answer(shelf, numbers):
    shelf.close_all(numbers)
    return "done"


def take_answer(shelf, numbers):
    return str(shelf.take_out(numbers[0]))


def add_answer(shelf, numbers):
    return str(shelf.add(numbers[0]))


def undo_answer(shelf, _):
    return "yes" if shelf.undo() else "no"


def show_answer(shelf, _):
    return nesting_text(shelf.nesting())


def history_answer(shelf, _):
    return history_text(shelf.history())


def open_answer(shelf, _):
    return history_text(shelf.open_gaps())


def count_answer(shelf, _):
    return str(shelf.count())


def nestings_answer(shelf, _):
    return str(count_nestings(shelf.row()))


def holders_answer(shelf, numbers):
    # Lists of places are written as lists of gaps are.
    return history_text(holders(shelf.row(), numbers[0]))


def chance_answer(shelf, numbers):
    over, under = holder_chance(shelf.row(), numbers[0], numbers[1])
    return f"{over}/{under}"


def depth_answer(shelf, numbers):
    return str(greatest_depth(shelf.row(), numbers[0]))


ANSWERS = {
    "close": close_answer,
    "all": all_answer,
    "take": take_answer,
    "add": add_answer,
    "undo": undo_answer,
    "show": show_answer,
    "history": history_answer,
    "open": open_answer,
    "count": count_answer,
    "nestings": nestings_answer,
    "holders": holders_answer,
    "chance": chance_answer,
    "depth": depth_answer,
}

# How many numbers stand behind a word. Behind all stands a list of them.
NUMBERS = {
    "close": 1,
    "take": 1,
    "add": 1,
    "undo": 0,
    "show": 0,
    "history": 0,
    "open": 0,
    "count": 0,
    "nestings": 0,
    "holders": 1,
    "chance": 2,
    "depth": 1,
}


def row_on(line):
    """The ROW that the first line of a sheet names, None if the line is not written so."""
    word, _, text = line.partition(" ")
    row = row_written(text)
    if word != "row" or row is None or len(row) > MOST_BOXES or max(row) > MOST_SIZE:
        return None
    return row


def numbers_behind(word, blank, text):
    """The numbers that stand behind the word, None if the line is not written so."""
    if word == "all":
        numbers = gaps_in(text)
        return numbers if numbers is not None and are_different_numbers(numbers) else None
    if word not in NUMBERS:
        return None
    numbers = numbers_in(text) if blank else []
    if numbers is None or len(numbers) != NUMBERS[word]:
        return None
    if word == "add" and numbers[0] < 1:
        return None
    return numbers


def task_on(line):
    """The pair of the word of a line and the list of its numbers, None if the line is not written so."""
    word, blank, text = line.partition(" ")
    numbers = numbers_behind(word, blank, text)
    return None if numbers is None else (word, numbers)


def answer(shelf, word, numbers):
    """The answer to a line, which may be the name of an error."""
    action = ANSWERS[word]
    try:
        return action(shelf, numbers)
    except NoGap:
        return "error NoGap"
    except Closed:
        return "error Closed"
    except NoBox:
        return "error NoBox"
    except Outer:
        return "error Outer"
    except Stuck:
        return "error Stuck"
    except Duplicate:
        return "error Duplicate"
    except Full:
        return "error Full"


def answers(text):
    """The list of the answers to the lines of a sheet behind its first one."""
    lines = text.split("\n")
    row = row_on(lines[0])
    if row is None:
        raise BadLine(0)
    tasks = []
    for number in range(1, len(lines)):
        task = task_on(lines[number])
        if task is None:
            raise BadLine(number)
        tasks.append(task)
    shelf = Shelf(row)
    return [answer(shelf, word, numbers) for word, numbers in tasks]
