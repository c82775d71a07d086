"""The histories that lead to a nesting: what they have in common, how many they are, and their numbers.

All histories that lead to a nesting close the same gaps, one for each box that is not outer. The gap of a box
has a span: when it is closed, all other gaps of the span are closed already. Two spans lie apart or one lies
within the other, so the orders of the gaps are those in which a tree is taken apart from its leaves on.
"""

from math import factorial

from putinside.errors import NoNumber, Outer, TooMany
from putinside.limits import MOST_LISTED
from putinside.nestings import nesting_after, spreads, stretch


def moved_stretch(row, nesting, place):
    """The stretch of a box that is not outer. Raises NoBox, then Outer."""
    first, last = stretch(row, nesting, place)
    if nesting[place] is None:
        raise Outer(place)
    return (first, last)


def gap_of(row, nesting, place):
    """The gap that is closed when the box is put in."""
    first, last = moved_stretch(row, nesting, place)
    return last if place < nesting[place] else first - 1


def needed(row, nesting, place):
    """The ascending tuple of the places of the boxes that must be put in before the box."""
    first, last = moved_stretch(row, nesting, place)
    above = nesting[place]
    # The box comes to stand beside its holder when all that is in it, and all between the two, is put in.
    if place < above:
        last = above - 1
    else:
        first = above + 1
    return tuple([at for at in range(first, last + 1) if at != place])


def gap_spans(row, nesting):
    """For each closed gap the first and the last gap of its span."""
    spans = {}
    for place, (first, last, _) in enumerate(spreads(row, nesting)):
        above = nesting[place]
        if above is not None:
            if place < above:
                spans[last] = (first, above - 1)
            else:
                spans[first - 1] = (above, last - 1)
    return spans


def gap_boxes(row, nesting):
    """For each closed gap the place of the box that is put in when it is closed."""
    boxes = {}
    for place, (first, last, _) in enumerate(spreads(row, nesting)):
        above = nesting[place]
        if above is not None:
            gap = last if place < above else first - 1
            boxes[gap] = place
    return boxes


def span_sizes(spans):
    """For each closed gap the number of gaps in its span, itself included."""
    return {gap: high - low + 1 for gap, (low, high) in spans.items()}


def gaps_over(spans):
    """For each closed gap the list of the other gaps whose spans it lies in."""
    over = {}
    for gap in spans:
        over[gap] = [other for other, (low, high) in spans.items() if low <= gap <= high and other != gap]
    return over


def count_orders(left):
    """In how many orders the gaps can be closed; left holds, for each, the number of gaps left in its span."""
    below = 1
    for many in left.values():
        below *= many
    return factorial(len(left)) // below


def count_histories(row, nesting):
    """How many HISTORYs lead to the NESTING."""
    return count_orders(span_sizes(gap_spans(row, nesting)))


def orders_after(left, over, orders):
    """How many of the orders begin with a gap that may be closed next, over being the gaps over it.

    This is what count_orders would say without the gap: the quotient changes in few factors only.
    """
    below = len(left)
    for other in over:
        orders *= left[other]
        below *= left[other] - 1
    return orders // below


def gaps_next(left):
    """The ascending list of the gaps that may be closed next: they alone are left in their spans."""
    return [gap for gap in sorted(left) if left[gap] == 1]


def take_gap(left, over, gap):
    """Take a gap that is closed out of those left, over being the gaps over it."""
    del left[gap]
    for other in over:
        left[other] -= 1


def begin(left, over, orders, number):
    """The gap with which the order with that number begins, how many begin so, and its number among these."""
    first = gaps_next(left)
    at = 0
    many = orders_after(left, over[first[at]], orders)
    while number >= many:
        number -= many
        at += 1
        many = orders_after(left, over[first[at]], orders)
    return (first[at], many, number)


def history_at(row, nesting, number):
    """The HISTORY with that number among those that lead to the NESTING."""
    spans = gap_spans(row, nesting)
    left = span_sizes(spans)
    orders = count_orders(left)
    if not 0 <= number < orders:
        raise NoNumber(number)
    over = gaps_over(spans)
    history = []
    while left:
        gap, orders, number = begin(left, over, orders, number)
        take_gap(left, over[gap], gap)
        history.append(gap)
    return history


def history_number(row, history):
    """The number of the HISTORY among those that lead to the same NESTING."""
    spans = gap_spans(row, nesting_after(row, history))
    left = span_sizes(spans)
    orders = count_orders(left)
    over = gaps_over(spans)
    number = 0
    for gap in history:
        earlier = [other for other in gaps_next(left) if other < gap]
        number += sum([orders_after(left, over[other], orders) for other in earlier])
        orders = orders_after(left, over[gap], orders)
        take_gap(left, over[gap], gap)
    return number


def all_histories(row, nesting):
    """The ascending list of all HISTORYs that lead to the NESTING."""
    many = count_histories(row, nesting)
    if many > MOST_LISTED:
        raise TooMany(many)
    return [history_at(row, nesting, number) for number in range(many)]
