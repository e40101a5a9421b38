"""What several test files share: slow ways of reckoning by the document's words, floors, and wrong inputs."""

import random

GREATEST = 10 ** 60 - 1
GREAT = 10 ** 59

NO_WHOLE = [True, False, None, "", "1", [], [1], (1,), {}, 1.0, 2.5]
NO_STRENGTHS = [0, -1, -5, -GREATEST, 10 ** 60, 10 ** 60 + 1, 10 ** 100] + NO_WHOLE
NO_GLASS = [1] + NO_STRENGTHS


def no_places(high, wide):
    return [
        (-1, 0), (0, -1), (-1, -1), (high, 0), (0, wide), (high, wide), (-high, -wide), (10 ** 70, 0),
        [-1, 0], [high, 0], [0, wide], [0, -1],
        (), (0,), (0, 0, 0), [], [0], [0, 0, 0], (True, 0), (0, True), (False, False), [0, False],
        (None, 0), (0, None), ("0", 0), (0, "0"), (0.0, 0), ([0], 0), (0, (0,)),
        None, True, False, 0, -1, 0.5, "", "0", "00", "(0, 0)", {}, {0: 0, 1: 0}, range(2), object(),
    ]


def places_of(rows):
    return [(row, column) for row in range(len(rows)) for column in range(len(rows[0]))]


def at(rows, place):
    return rows[place[0]][place[1]]


def around(place):
    row, column = place
    return [(row - 1, column), (row, column - 1), (row, column + 1), (row + 1, column)]


def beside(losses, place):
    return [
        near for near in around(place)
        if near[0] in range(len(losses)) and near[1] in range(len(losses[0])) and at(losses, near) > 0
    ]


def least_losses(losses, place):
    """For each cell that a way leads to, the least loss of any way from the place, by sweeps until nothing changes."""
    least = {place: 0}
    changed = True
    order = places_of(losses)
    while changed:
        changed = False
        order.reverse()
        for cell in order:
            if at(losses, cell) == 0:
                continue
            for near in beside(losses, cell):
                if near in least and (cell not in least or least[near] + at(losses, cell) < least[cell]):
                    least[cell] = least[near] + at(losses, cell)
                    changed = True
    return least


def slow_lights(losses, lamps):
    rows = [[0] * len(losses[0]) for row in losses]
    for place, strength in lamps:
        for cell, loss in least_losses(losses, tuple(place)).items():
            rows[cell[0]][cell[1]] = max(at(rows, cell), strength - loss)
    return rows


def slow_off(losses, lamps, rows):
    found = []
    strengths = {tuple(place): strength for place, strength in lamps}
    for place in places_of(losses):
        due = 0
        if at(losses, place) > 0:
            due = max(0, strengths.get(place, 0))
            for near in beside(losses, place):
                due = max(due, at(rows, near) - at(losses, place))
        if at(rows, place) != due:
            found.append(place)
    return found


def lacking(losses, rows):
    return [
        place for place in places_of(losses)
        if at(losses, place) > 0
        and any(at(rows, near) - at(losses, place) > at(rows, place) for near in beside(losses, place))
    ]


def unlike(before, behind):
    return [place for place in places_of(before) if at(before, place) != at(behind, place)]


def slow_raised(losses, rows, starts):
    rows = [list(row) for row in rows]
    for place, number in starts:
        if at(losses, place) > 0:
            rows[place[0]][place[1]] = max(at(rows, place), number)
    while True:
        short = lacking(losses, rows)
        if not short:
            return rows
        for place in short:
            most = max(at(rows, near) for near in beside(losses, place))
            rows[place[0]][place[1]] = max(at(rows, place), most - at(losses, place))


def way_loss(losses, way):
    return sum(at(losses, place) for place in way[1:])


def is_way(losses, way):
    if not way or any(at(losses, place) == 0 for place in way):
        return False
    return all(other in beside(losses, one) for one, other in zip(way, way[1:]))


def winding(loss=1):
    """Thirty rows of thirty cells, every second row a wall but for one cell: one way of 465 cells, from (0, 0) to (29, 29)."""
    rows = []
    for number in range(30):
        if number % 2 == 0:
            rows.append([loss] * 30)
        else:
            row = [0] * 30
            row[29 if number % 4 == 1 else 0] = loss
            rows.append(row)
    return rows


def spoil(told):
    """Fills up and empties every list in what was told."""
    if isinstance(told, (list, tuple)):
        for part in told:
            spoil(part)
    if isinstance(told, list):
        told.append("spoilt")
        if len(told) % 2 == 0:
            told.clear()


def drawn_floor(draw, high, wide):
    choices = draw.choice([
        [1], [0, 1, 1, 1], [0, 1, 1, 2, 3, 5], [1, 2, 3], [0, 1, 4, 9, 40], [1, 1, GREAT, GREATEST], [0, 0, 1],
    ])
    return [[draw.choice(choices) for column in range(wide)] for row in range(high)]


def drawn_lamps(draw, losses, many):
    free = [place for place in places_of(losses) if at(losses, place) > 0]
    draw.shuffle(free)
    return [(place, draw.choice([1, 2, 3, 5, 8, 13, 30, 100, GREAT, GREATEST])) for place in free[:many]]


def drawn(seed, sizes=((1, 1), (1, 7), (7, 1), (2, 2), (5, 5), (4, 9))):
    """Floors with lamps, the same for the same seed."""
    draw = random.Random(seed)
    for high, wide in sizes:
        for many in (0, 1, 2, 5):
            losses = drawn_floor(draw, high, wide)
            yield draw, losses, drawn_lamps(draw, losses, many)
