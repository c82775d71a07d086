"""Rows of boxes, and histories: the orders in which the gaps between the boxes are closed."""


def is_number(thing):
    """Whether thing is an int that is not a bool."""
    return isinstance(thing, int) and not isinstance(thing, bool)


def are_different_numbers(things):
    """Whether the list or tuple has nothing but numbers, each of them once."""
    # What is no number must not come into the set: a list has no hash, and True equals 1.
    if not all([is_number(thing) for thing in things]):
        return False
    return len(set(things)) == len(things)


def is_row(thing):
    """Whether thing is a ROW: a tuple of different sizes from 1, at least one."""
    if not isinstance(thing, tuple) or len(thing) == 0:
        return False
    return are_different_numbers(thing) and min(thing) >= 1


def is_history(row, thing):
    """Whether thing is a HISTORY of the ROW: a list of different gaps, maybe empty."""
    if not isinstance(thing, list) or not are_different_numbers(thing):
        return False
    return all([is_gap(row, gap) for gap in thing])


def is_gap(row, gap):
    """Whether the number is a gap of the ROW."""
    return 0 <= gap <= len(row) - 2


def biggest(row, first, last):
    """The place of the biggest box from the first to the last place."""
    return row.index(max(row[first:last + 1]))


def by_size(row):
    """The places of all boxes, the smallest box first."""
    return [place for _, place in sorted([(size, at) for at, size in enumerate(row)])]


def reach(row, place):
    """The first and the last place of the longest stretch around the box in which no box is bigger."""
    first = place
    while first > 0 and row[first - 1] < row[place]:
        first -= 1
    last = place
    while last < len(row) - 1 and row[last + 1] < row[place]:
        last += 1
    return (first, last)


def outer_boxes(row, history):
    """The ascending list of triples (first, last, place) of the outer boxes after the HISTORY."""
    closed = set(history)
    found = []
    first = 0
    for place in range(len(row)):
        # A gap has the number of the place at its left. The last place has no gap at its
        # right, so its number is never among the closed ones, and the last stretch ends there.
        if place not in closed:
            found.append((first, place, biggest(row, first, place)))
            first = place + 1
    return found


def moves(row, history):
    """For each gap of the HISTORY the pair of the box that is put in and the one into which it is put."""
    outer = list(range(len(row)))
    found = []
    for gap in history:
        one, other = outer[gap], outer[gap + 1]
        if row[one] > row[other]:
            one, other = other, one
        found.append((one, other))
        outer = [other if above == one else above for above in outer]
    return found
