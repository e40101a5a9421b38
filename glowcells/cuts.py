"""Floors and their lamps, cut in two and joined."""

from glowcells.errors import NoCut, NoFloor
from glowcells.floors import Floor
from glowcells.kinds import is_whole
from glowcells.lamps import looked_over


def cut(floor, lamps, column):
    looked = looked_over(floor, lamps)
    if not is_whole(column) or not 1 <= column < floor.wide():
        raise NoCut("a floor is cut before a column that has one ahead of it")
    rows = floor.rows()
    left = [lamp for lamp in looked if lamp[0][1] < column]
    right = [lamp for lamp in looked if lamp[0][1] >= column]
    return (
        (Floor([row[:column] for row in rows]), left),
        (Floor([row[column:] for row in rows]), shifted(right, -column)),
    )


def joined(one, other):
    left = looked_over(one[0], one[1])
    right = looked_over(other[0], other[1])
    floor = floor_of_both(one[0], other[0])
    return (floor, sorted(left + shifted(right, one[0].wide())))


def floor_of_both(left, right):
    if left.high() != right.high():
        raise NoFloor("joined floors have as many rows")
    # A row of too many cells the floor itself refuses.
    return Floor([first + second for first, second in zip(left.rows(), right.rows())])


def shifted(lamps, columns):
    return [((lamp[0][0], lamp[0][1] + columns), lamp[1]) for lamp in lamps]
