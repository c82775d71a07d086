"""Rows, histories and other values that the tests have in common."""

import itertools

ROW = (2, 4, 1, 3)
HUGE = 10 ** 5000

TWELVE = (5, 12, 1, 8, 3, 10, 2, 7, 11, 4, 9, 6)
LONG_ROWS = [
    TWELVE,
    tuple(range(1, 13)),
    tuple(range(12, 0, -1)),
    (10 ** 9, 1, 10 ** 9 - 1, 2, 7, 6, 40, 39, 500, 3, 10 ** 8, 4),
    (3, 14, 15, 9, 26, 5, 35, 8),
]
LONG_HISTORIES = [
    [],
    [6],
    [0, 2, 4, 6],
    [6, 4, 2, 0, 5],
    [1, 2, 3, 0],
    [3, 2, 4, 1, 5, 0, 6],
]


def nested(depth, thing):
    for _ in range(depth):
        thing = [thing]
    return thing


# Values of every kind that a thing may have, none of which a row or a history has among its numbers.
NO_NUMBERS = [
    True, False, None, "", "1", "2 4 1 3", (), [], (1,), [1], (1, 2), [0, 1], ((1,),), [[]], [None],
    nested(15, 1), nested(14, (1, "a", None, True)),
]


def played(row, history):
    """The outer boxes and the moves, from heaps (first, last, place) that are put together one by one."""
    heaps = [(place, place, place) for place in range(len(row))]
    put = []
    for gap in history:
        [at] = [k for k, heap in enumerate(heaps) if heap[1] == gap]
        left, right = heaps[at], heaps[at + 1]
        if row[left[2]] < row[right[2]]:
            small, big = left[2], right[2]
        else:
            small, big = right[2], left[2]
        put.append((small, big))
        heaps[at:at + 2] = [(left[0], right[1], big)]
    return heaps, put


def small_rows():
    for many in range(1, 6):
        for row in itertools.permutations(range(1, many + 1)):
            yield row


def histories_of(row):
    gaps = range(len(row) - 1)
    for many in range(len(row)):
        for history in itertools.permutations(gaps, many):
            yield list(history)


def long_cases():
    for row in LONG_ROWS:
        for history in LONG_HISTORIES:
            yield row, history
        gaps = list(range(len(row) - 1))
        for by in range(1, len(row)):
            turned = gaps[by:] + gaps[:by]
            yield row, turned
            yield row, turned[::-1]
            yield row, turned[::2] + turned[1::2]
            yield row, turned[:by]


def mixed(many, by):
    """The numbers from 0 to many - 1 in an order of their own for each by from 1 to 12; many is at most 12."""
    return sorted(range(many), key=lambda number: (number + 1) * by % 13)


def cases_of_every_length():
    """Rows from one box to twelve boxes, with histories that are empty, full and between."""
    for many in range(1, 13):
        for by in [1, 5, 8, 11, 12]:
            row = tuple(size + 1 for size in mixed(many, by))
            yield row, []
            for other in [1, 3, 6, 12]:
                order = mixed(many - 1, other)
                yield row, order
                yield row, order[:many // 2]
                yield row, order[:-1]


def nesting_of(row, history):
    """The nesting after the history, from the moves of the heaps."""
    holder = dict(played(row, history)[1])
    return tuple(holder.get(place) for place in range(len(row)))


def histories_by_nesting(row):
    """For each nesting of the row the ascending list of the histories that lead to it, from all histories."""
    found = {}
    for history in histories_of(row):
        found.setdefault(nesting_of(row, history), []).append(history)
    return {nesting: sorted(histories) for nesting, histories in found.items()}


def with_lists(thing):
    """The thing with lists for tuples and tuples for lists, at any depth."""
    if isinstance(thing, tuple):
        return [with_lists(part) for part in thing]
    if isinstance(thing, list):
        return tuple(with_lists(part) for part in thing)
    return thing


def check_arguments(test, function, words, values):
    """Point 2: by position and by name, lists for tuples and tuples for lists, arguments that do not change.

    What stands for a parameter called thing is not turned into another kind.
    """
    wanted = repr_of(function(*values))
    turned = [value if word == "thing" else with_lists(value) for word, value in zip(words, values)]
    for given in [values, turned, turned[:1] + values[1:], values[:1] + turned[1:]]:
        before = repr_of(given)
        test.assertEqual(repr_of(function(*given)), wanted)
        test.assertEqual(repr_of(function(**dict(zip(words, given)))), wanted)
        test.assertEqual(repr_of(function(**dict(list(zip(words, given))[::-1]))), wanted)
        test.assertEqual(repr_of(given), before)


def check_fresh(test, function, *values):
    """A changed result, or a changed list in it, does not influence the next result."""
    wanted = repr_of(function(*values))
    found = function(*values)
    for part in found:
        if isinstance(part, list):
            part.append(77)
            part.reverse()
    found.append(77)
    found.reverse()
    test.assertEqual(repr_of(function(*values)), wanted)
    found.clear()
    test.assertEqual(repr_of(function(*values)), wanted)


def repr_of(thing):
    """A text that tells lists from tuples and booleans from numbers, also for numbers of any length."""
    if isinstance(thing, (list, tuple)):
        return type(thing).__name__ + "(" + ",".join(repr_of(part) for part in thing) + ")"
    if isinstance(thing, int):
        return type(thing).__name__ + hex(thing)
    return repr(thing)


def check_error(test, error, values, function, *arguments):
    """The call raises this error itself, with these values as its attributes."""
    with test.assertRaises(error) as caught:
        function(*arguments)
    test.assertIs(type(caught.exception), error)
    test.assertEqual(vars(caught.exception), values)


def no_places(row):
    """Numbers that are no places of the row."""
    return [-1, -2, -len(row), -len(row) - 1, len(row), len(row) + 1, 12, 99, HUGE, -HUGE]


def full_histories(row):
    return [list(history) for history in itertools.permutations(range(len(row) - 1))]


def rank(nesting):
    """What nestings are sorted by: None is taken for -1."""
    return tuple(-1 if above is None else above for above in nesting)


def is_full(nesting):
    return nesting.count(None) == 1


def full_by_histories(row):
    """The ascending list of the full nestings of the row, from all its full histories."""
    return sorted({nesting_of(row, history) for history in full_histories(row)}, key=rank)


def filled(part, place):
    """The part of a nesting with its outer boxes put into the box at the place."""
    return tuple(place if above is None else above for above in part)


def parts_of(row):
    """For each stretch (first, behind) its nestings and its full nestings, from shorter stretches.

    A nesting is a full nesting of some of the first boxes and a nesting of those behind them.
    """
    every = {(at, at): [()] for at in range(len(row) + 1)}
    full = {}
    for many in range(1, len(row) + 1):
        for first in range(len(row) - many + 1):
            behind = first + many
            top = row.index(max(row[first:behind]))
            full[first, behind] = [filled(one, top) + (None,) + filled(other, top)
                                   for one in every[first, top] for other in every[top + 1, behind]]
            every[first, behind] = [one + other for middle in range(first + 1, behind + 1)
                                    for one in full[first, middle] for other in every[middle, behind]]
    return every[0, len(row)], full[0, len(row)]


def boxes_around(nesting, place):
    """The boxes around the box, the nearest one first."""
    found = []
    while nesting[place] is not None:
        place = nesting[place]
        found.append(place)
    return found


def outermost(nesting, place):
    return ([place] + boxes_around(nesting, place))[-1]


def replaced(nesting, place, above):
    return nesting[:place] + (above,) + nesting[place + 1:]


def steps_by_reading(row, nesting):
    """For each step that is possible the nesting after it, from the words of point 10."""
    found = {}
    for gap in range(len(row) - 1):
        left, right = outermost(nesting, gap), outermost(nesting, gap + 1)
        if left != right:
            small, big = (left, right) if row[left] < row[right] else (right, left)
            found["put", gap] = replaced(nesting, small, big)
    for place, above in enumerate(nesting):
        if above is None or nesting[above] is not None:
            continue
        beside = [other for other in range(len(row)) if nesting[other] == above and (other < above) == (place < above)]
        if max(beside, key=lambda other: abs(other - above)) == place:
            found["take", place] = replaced(nesting, place, None)
    return found
