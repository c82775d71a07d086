"""Chances: what happens on average if all full histories of a row are equally likely.

A fraction is a pair (numerator, denominator) in lowest terms with a denominator from 1.
"""

from math import gcd, perm

from putinside.nestings import check_place, holders
from putinside.rows import reach


def lowest(over, under):
    """The FRACTION with this value; under is at least 1."""
    by = gcd(over, under)
    return (over // by, under // by)


def plus(one, other):
    """The sum of two FRACTIONs."""
    return lowest(one[0] * other[1] + other[0] * one[1], one[1] * other[1])


def total(fractions):
    """The sum of a list of FRACTIONs."""
    found = (0, 1)
    for fraction in fractions:
        found = plus(found, fraction)
    return found


def check_places(row, one, other):
    """Raise NoBox for the first of two numbers that is no place of the ROW."""
    check_place(row, one)
    check_place(row, other)


def facing(row, one, other):
    """The ROW and two different places in it, seen from the end from which one comes first."""
    if one < other:
        return (row, one, other)
    last = len(row) - 1
    return (row[::-1], last - one, last - other)


def bigger_left(row, place):
    """The list of the place of the next bigger box at the left, empty if there is none."""
    first, _ = reach(row, place)
    return [first - 1] if first > 0 else []


def bigger_right(row, place):
    """The list of the place of the next bigger box at the right, empty if there is none."""
    _, last = reach(row, place)
    return [last + 1] if last < len(row) - 1 else []


def last_chance(ways, between, beyond):
    """The chance that one of some gaps is closed last of all gaps between two boxes, but not too late.

    Of the gaps between the boxes, ways may be the last. It is too late if all gaps of a group beyond the boxes are
    closed before; beyond is the list of the sizes of these groups, at most one on each side.
    """
    chance = lowest(ways, between)
    for many in beyond:
        chance = plus(chance, lowest(-ways, between + many))
    # What is too late on both sides has been taken away twice.
    if len(beyond) == 2:
        chance = plus(chance, lowest(ways, between + sum(beyond)))
    return chance


def holder_chance(row, one, other):
    """The FRACTION that one is directly in other at last."""
    check_places(row, one, other)
    if other not in holders(row, one):
        return (0, 1)
    row, one, other = facing(row, one, other)
    # The gap that is closed last between the two must be one up to which no box is bigger than one.
    _, last = reach(row, one)
    ways = last - one + 1
    left = [one - place for place in bigger_left(row, one)]
    right = [place - other for place in bigger_right(row, other)]
    return last_chance(ways, other - one, left + right)


def around_chance(row, one, other):
    """The FRACTION that one is in other, directly or not, at last."""
    check_places(row, one, other)
    if other not in holders(row, one):
        return (0, 1)
    row, one, other = facing(row, one, other)
    left = [one - place for place in bigger_left(row, other)]
    right = [place - other for place in bigger_right(row, other)]
    return last_chance(other - one, other - one, left + right)


def mean_depth(row, place):
    """The FRACTION that tells how many boxes are around the box at last, on average."""
    check_place(row, place)
    return total([around_chance(row, place, other) for other in range(len(row))])


def mean_inside(row, place):
    """The FRACTION that tells how many boxes are in the box at last, directly or not, on average."""
    check_place(row, place)
    return total([around_chance(row, other, place) for other in range(len(row))])


def together_chance(row, one, other, many):
    """The FRACTION that two boxes are under one outer box after the first moves."""
    check_places(row, one, other)
    gaps = len(row) - 1
    between = abs(one - other)
    # They are if all gaps between them are among those that are closed.
    closed = max(0, min(many, gaps))
    return lowest(perm(closed, between), perm(gaps, between))
