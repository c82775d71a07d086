"""All nestings of a row: how many they are, also with some boxes known, and the numbers of the full ones.

In the longest stretch in which a box is the biggest, the nestings of the boxes at its left and those of the boxes
at its right have nothing to do with each other: of each side, the outer boxes that are nearest to it are put into
it, or none of them. So everything is built up from the smallest box on, from stretch to stretch.
"""

from putinside.errors import NoNumber, NotFull, TooMany
from putinside.limits import MOST_LISTED
from putinside.nestings import holders, outer_places
from putinside.rows import biggest, by_size, reach


def left_outer(counts):
    """From how many nestings have so many outer boxes: in how many ways so many are left beside a bigger box."""
    many = 0
    left = []
    for count in reversed(counts):
        many += count
        left.append(many)
    return left[::-1]


def counts_together(one, other):
    """In how many ways so many boxes are left on both sides together."""
    found = [0] * (len(one) + len(other) - 1)
    for at, count in enumerate(one):
        for by, more in enumerate(other):
            found[at + by] += count * more
    return found


def counts_by_outer(row):
    """The list that has at each index how many NESTINGs have so many outer boxes."""
    counts = {}
    for place in by_size(row):
        first, last = reach(row, place)
        left = left_outer(counts.pop((first, place - 1), [1]))
        right = left_outer(counts.pop((place + 1, last), [1]))
        # The box itself is outer, too.
        counts[(first, last)] = [0] + counts_together(left, right)
    return counts[(0, len(row) - 1)]


def count_outer(row, many):
    """How many NESTINGs have so many outer boxes."""
    if not 0 <= many <= len(row):
        return 0
    return counts_by_outer(row)[many]


def count_nestings(row):
    """How many full NESTINGs there are."""
    return count_outer(row, 1)


def add_ways(row, bounds, ways, place, outwards):
    """For each of the places: in how many ways all boxes from it to the box are put in, the outer ones directly.

    The places go outwards from the box on one side of it, and no box there is bigger.
    """
    for at, far in enumerate(outwards):
        many = 0
        root = far
        # The farthest of the boxes that are put in takes all places from far to near.
        for near in outwards[at::-1]:
            if row[near] > row[root]:
                root = near
            least, most = bounds[root]
            if least <= place <= most:
                inner = near + 1 if near < place else near - 1
                many += ways[(root, far)] * ways[(root, near)] * ways[(place, inner)]
        ways[(place, far)] = many


def count_within(row, bounds):
    """How many full NESTINGs have, for each box but the biggest, a holder within its bounds.

    These are the pair of the least and the greatest place.
    """
    ways = {(place, place): 1 for place in range(len(row))}
    for place in by_size(row):
        first, last = reach(row, place)
        add_ways(row, bounds, ways, place, list(range(place - 1, first - 1, -1)))
        add_ways(row, bounds, ways, place, list(range(place + 1, last + 1)))
    top = biggest(row, 0, len(row) - 1)
    return ways[(top, 0)] * ways[(top, len(row) - 1)]


def count_with(row, claim):
    """How many full NESTINGs agree with the CLAIM in all its entries that are not None."""
    last = len(row) - 1
    if claim[biggest(row, 0, last)] is not None:
        return 0
    return count_within(row, [(0, last) if above is None else (above, above) for above in claim])


def settle(row, bounds, place, number):
    """Narrow the bounds of the box to the holder that it has in the nesting with that number among those left.

    Returns the number of this nesting among those that are then left. The biggest box has no holder.
    """
    for above in holders(row, place):
        bounds[place] = (above, above)
        many = count_within(row, bounds)
        if number < many:
            break
        number -= many
    return number


def nesting_at(row, number):
    """The full NESTING with that number."""
    if not 0 <= number < count_nestings(row):
        raise NoNumber(number)
    last = len(row) - 1
    bounds = [(0, last)] * len(row)
    for place in range(len(row)):
        number = settle(row, bounds, place, number)
    top = biggest(row, 0, last)
    return tuple([None if place == top else above for place, (above, _) in enumerate(bounds)])


def nesting_number(row, nesting):
    """The number of the NESTING among the full ones."""
    many = len(outer_places(nesting))
    if many != 1:
        raise NotFull(many)
    bounds = [(0, len(row) - 1)] * len(row)
    number = 0
    for place, above in enumerate(nesting):
        if above is not None:
            bounds[place] = (0, above - 1)
            number += count_within(row, bounds)
            bounds[place] = (above, above)
    return number


def put_nearest(part, place, nearest):
    """All nestings that come from the part when none, one, two .. of its nearest outer boxes are put into the box."""
    found = []
    for many in range(len(nearest) + 1):
        gone = nearest[:many]
        found.append(tuple([place if at in gone else above for at, above in enumerate(part)]))
    return found


def nestings_of_any_kind(row):
    """The list of all NESTINGs of the ROW, those with several outer boxes, too."""
    parts = {}
    for place in by_size(row):
        first, last = reach(row, place)
        before = parts.pop((first, place - 1), [()])
        behind = parts.pop((place + 1, last), [()])
        left = []
        for part in before:
            left.extend(put_nearest(part, place, outer_places(part)[::-1]))
        right = []
        for part in behind:
            right.extend(put_nearest(part, place, outer_places(part)))
        parts[(first, last)] = [one + (None,) + other for one in left for other in right]
    return parts[(0, len(row) - 1)]


def all_nestings(row):
    """The list of all full NESTINGs in the order of their numbers."""
    many = count_nestings(row)
    if many > MOST_LISTED:
        raise TooMany(many)
    # Full nestings all have None at the place of the biggest box alone, so Python can compare them.
    return sorted([nesting for nesting in nestings_of_any_kind(row) if len(outer_places(nesting)) == 1])
