"""Nestings: for each box of a row the box in which it is directly, None for the outer ones."""

from putinside.errors import NoBox
from putinside.rows import by_size, is_number, moves


def nesting_after(row, history):
    """The NESTING after the HISTORY."""
    holder = [None] * len(row)
    for one, other in moves(row, history):
        holder[one] = other
    return tuple(holder)


def is_claim(row, thing):
    """Whether thing is a CLAIM: a tuple of None or another place for each place."""
    if not isinstance(thing, tuple) or len(thing) != len(row):
        return False
    for place, above in enumerate(thing):
        if above is None:
            continue
        if not is_number(above) or above == place or not 0 <= above < len(row):
            return False
    return True


def is_nesting(row, thing):
    """Whether thing is a NESTING of the ROW."""
    return is_claim(row, thing) and evidence(row, thing) is None


def small_places(row, claim):
    """The ascending list of the places whose holder is not bigger."""
    return [place for place, above in enumerate(claim) if above is not None and row[above] <= row[place]]


def spreads(row, claim):
    """For each box, with all that is in it: the first place, the last place, and how many boxes these are.

    Every holder of the CLAIM must be bigger.
    """
    firsts = list(range(len(row)))
    lasts = list(range(len(row)))
    counts = [1] * len(row)
    # From the smallest box on: all that is in a box has been added to it when it is added to its holder.
    for place in by_size(row):
        above = claim[place]
        if above is not None:
            firsts[above] = min(firsts[above], firsts[place])
            lasts[above] = max(lasts[above], lasts[place])
            counts[above] += counts[place]
    return list(zip(firsts, lasts, counts))


def apart_places(row, claim):
    """The ascending list of the boxes that do not take neighbouring places with all that is in them.

    Every holder of the CLAIM must be bigger.
    """
    found = []
    for place, (first, last, many) in enumerate(spreads(row, claim)):
        if last - first + 1 != many:
            found.append(place)
    return found


def evidence(row, claim):
    """None if the CLAIM is a NESTING, otherwise ("small", place) or ("apart", place) with the least place."""
    small = small_places(row, claim)
    if small:
        return ("small", small[0])
    apart = apart_places(row, claim)
    if apart:
        return ("apart", apart[0])
    return None


def shows_evidence(row, claim, thing):
    """Whether thing is a pair ("small", place) or ("apart", place) that is true of the CLAIM."""
    if not isinstance(thing, tuple) or len(thing) != 2:
        return False
    word, place = thing
    if not is_number(place):
        return False
    small = small_places(row, claim)
    if word == "small":
        return place in small
    return word == "apart" and not small and place in apart_places(row, claim)


def outer_places(nesting):
    """The ascending list of the places of the outer boxes."""
    return [place for place, above in enumerate(nesting) if above is None]


def check_place(row, place):
    """Raise NoBox for a number that is no place of the ROW."""
    if not 0 <= place < len(row):
        raise NoBox(place)


def inside(row, nesting, place):
    """The ascending tuple of the places of all boxes that are in the box, directly or not."""
    first, last = stretch(row, nesting, place)
    return tuple([at for at in range(first, last + 1) if at != place])


def around(row, nesting, place):
    """The list of the places of the boxes that the box is in, the one directly around it first."""
    check_place(row, place)
    found = []
    above = nesting[place]
    while above is not None:
        found.append(above)
        above = nesting[above]
    return found


def stretch(row, nesting, place):
    """The pair of the first and the last place that the box takes with all that is in it."""
    check_place(row, place)
    first, last, _ = spreads(row, nesting)[place]
    return (first, last)


def rising(row, place, others):
    """Those of the others, in their order, that are bigger than the box and than all others before them."""
    found = []
    most = row[place]
    for other in others:
        if row[other] > most:
            most = row[other]
            found.append(other)
    return found


def holders(row, place):
    """The ascending list of the places of the boxes in which the box is directly in some NESTING."""
    check_place(row, place)
    left = rising(row, place, list(range(place - 1, -1, -1)))
    right = rising(row, place, list(range(place + 1, len(row))))
    return sorted(left + right)
