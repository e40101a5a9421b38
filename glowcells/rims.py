"""Rims: the sides of a shape, one behind another, and the places inside them."""


def rims(shape):
    free = sides_of(shape)
    told = []
    # By the least side first: it begins at its rim's least corner, for all sides of that rim are still free,
    # and so it never goes left or up.
    for side in sorted(free):
        if free[side]:
            told.append(take_rim(free, side))
    return told


def sides_of(shape):
    # By each side as a tuple of two corners: whether it is in no rim yet.
    cells = {}
    for place in shape:
        cells[tuple(place)] = True
    free = {}
    for place in cells:
        for near, side in sides_round(place):
            if near not in cells:
                free[side] = True
    return free


def sides_round(place):
    # With each side of the cell the cell beyond it.
    row = place[0]
    column = place[1]
    corners = [(row, column), (row, column + 1), (row + 1, column + 1), (row + 1, column)]
    return [
        ((row - 1, column), (corners[0], corners[1])),
        ((row, column + 1), (corners[1], corners[2])),
        ((row + 1, column), (corners[2], corners[3])),
        ((row, column - 1), (corners[3], corners[0])),
    ]


def take_rim(free, first):
    rim = []
    side = first
    while free[side]:
        free[side] = False
        rim.append(side[0])
        side = next_side(free, side)
    return rim


def next_side(sides, side):
    corner = side[1]
    return [(corner, end) for end in turns(side[0], corner) if (corner, end) in sides][0]


def turns(begin, end):
    # Where a side may go on to from the end of another one: to the right, straight on, to the left.
    down = end[0] - begin[0]
    along = end[1] - begin[1]
    row = end[0]
    column = end[1]
    return [(row + along, column - down), (row + down, column + along), (row - along, column + down)]


def inside(rims):
    heights = heights_of(rims)
    places = []
    for column in heights:
        places.extend(places_in_column(column, sorted(heights[column])))
    return sorted(places)


def heights_of(every_rim):
    # By columns the rows at which sides lie that go along rows.
    heights = {}
    for rim in every_rim:
        for begin, end in zip(rim, rim[1:] + rim[:1]):
            if begin[0] == end[0]:
                heights.setdefault(min(begin[1], end[1]), []).append(begin[0])
    return heights


def places_in_column(column, heights):
    # From each first of two sides to the second one an odd number of them lies above.
    places = []
    for upper, lower in zip(heights[::2], heights[1::2]):
        places.extend([(row, column) for row in range(upper, lower)])
    return places
