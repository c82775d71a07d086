"""Taking boxes out of a nesting and putting them in: the steps that turn nestings into each other.

A step opens or closes one gap. It changes nothing in how the other closed gaps came to be closed, so two nestings
are as many steps apart as there are gaps that one of them has closed, and the other one has not, or in another way.
"""

from putinside.errors import Closed, NoGap, Outer, Stuck
from putinside.histories import gap_boxes, gap_spans
from putinside.nestings import check_place
from putinside.rows import is_gap, is_number


def open_gaps(row, nesting):
    """The ascending list of the gaps that are open."""
    closed = gap_boxes(row, nesting)
    return [gap for gap in range(len(row) - 1) if gap not in closed]


def loose_boxes(nesting):
    """The ascending list of the places of the boxes that can be taken out."""
    firsts = {}
    lasts = {}
    for place, above in enumerate(nesting):
        if above is not None:
            firsts.setdefault(above, place)
            lasts[above] = place
    found = []
    for place, above in enumerate(nesting):
        if above is not None and nesting[above] is None:
            # The farthest box on this side of the holder.
            if place == (firsts[above] if place < above else lasts[above]):
                found.append(place)
    return found


def steps(row, nesting):
    """The ascending list of all STEPs that are possible."""
    puts = [("put", gap) for gap in open_gaps(row, nesting)]
    takes = [("take", place) for place in loose_boxes(nesting)]
    return puts + takes


def with_holder(nesting, place, above):
    """The nesting with another holder of the box, or None for it."""
    return tuple([above if at == place else other for at, other in enumerate(nesting)])


def outer_over(nesting, place):
    """The place of the outer box in which the box is, or which it is."""
    while nesting[place] is not None:
        place = nesting[place]
    return place


def after_put(row, nesting, gap):
    """The NESTING after the gap is closed."""
    if not is_gap(row, gap):
        raise NoGap(gap)
    if gap not in open_gaps(row, nesting):
        raise Closed(gap)
    one = outer_over(nesting, gap)
    other = outer_over(nesting, gap + 1)
    if row[one] > row[other]:
        one, other = other, one
    return with_holder(nesting, one, other)


def check_take(row, nesting, place):
    """Raise NoBox, Outer or Stuck if the box cannot be taken out."""
    check_place(row, place)
    if nesting[place] is None:
        raise Outer(place)
    if place not in loose_boxes(nesting):
        raise Stuck(place)


def after_step(row, nesting, step):
    """The NESTING after the STEP."""
    word, number = step
    if word == "put":
        return after_put(row, nesting, number)
    check_take(row, nesting, number)
    return with_holder(nesting, number, None)


def by_span(spans):
    """The list of the gaps, those with the shortest spans first."""
    return [gap for _, gap in sorted([(high - low, gap) for gap, (low, high) in spans.items()])]


def gaps_alike(spans, others):
    """A dict of True for the gaps that are closed in the same way in two nestings with these spans."""
    alike = {}
    for gap in by_span(spans):
        low, high = spans[gap]
        below = [other for other in range(low, high + 1) if other != gap]
        if others.get(gap) == (low, high) and all([other in alike for other in below]):
            alike[gap] = True
    return alike


def steps_apart(row, one, other):
    """The fewest STEPs from one NESTING to another one."""
    return len(step_plan(row, one, other))


def step_plan(row, one, other):
    """A list of the fewest STEPs from one NESTING to another one."""
    before = gap_spans(row, one)
    after = gap_spans(row, other)
    alike = gaps_alike(before, after)
    boxes = gap_boxes(row, one)
    # Whatever is closed within the span of a gap is closed before it.
    takes = [("take", boxes[gap]) for gap in reversed(by_span(before)) if gap not in alike]
    puts = [("put", gap) for gap in by_span(after) if gap not in alike]
    return takes + puts


def is_step(thing):
    """Whether thing has the form of a STEP."""
    if not isinstance(thing, tuple) or len(thing) != 2:
        return False
    return (thing[0] == "put" or thing[0] == "take") and is_number(thing[1])


def shows_step_plan(row, one, other, thing):
    """Whether thing is a list of STEPs, each possible in its turn, that lead from one NESTING to another one."""
    if not isinstance(thing, list):
        return False
    nesting = tuple(one)
    for step in thing:
        if not is_step(step) or step not in steps(row, nesting):
            return False
        nesting = after_step(row, nesting, step)
    return nesting == tuple(other)
