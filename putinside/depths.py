"""Depths: how many boxes can come to be around a box, and how soon one box can be in another one."""

from putinside.nestings import check_place, holders


def greatest_depth(row, place):
    """The greatest depth that the box has in any NESTING."""
    # All boxes that can be around it can be so at once: they are put into each other, the smallest one first.
    return len(holders(row, place))


def deep_history(row, place):
    """A full HISTORY after which the box has its greatest depth."""
    check_place(row, place)
    first = place
    last = place
    history = []
    # The smaller of the two neighbours always comes next. So the box that holds all others of the stretch is put
    # into a bigger one only when both neighbours are bigger, and into the smaller of the two.
    while len(history) < len(row) - 1:
        if first > 0 and (last == len(row) - 1 or row[first - 1] < row[last + 1]):
            first -= 1
            history.append(first)
        else:
            history.append(last)
            last += 1
    return history


def fewest_moves(row, one, other):
    """The length of the shortest HISTORY after which one is in other, None if there is none."""
    check_place(row, one)
    check_place(row, other)
    if other not in holders(row, one):
        return None
    # From other on, the gaps up to one are closed one after the other. All of them must be closed.
    return abs(one - other)
