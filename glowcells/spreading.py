"""Spreading: rows of numbers raised until no cell lacks."""

from glowcells.errors import NoLights, NoPlace
from glowcells.floors import places_of
from glowcells.kinds import is_listed, is_pair, is_whole


def raised(floor, rows, starts):
    check_rows(floor, rows)
    for start in starts:
        check_start(floor, start)
    behind = spread(floor, rows, starts)
    return (behind, unlike(rows, behind))


def check_rows(floor, rows):
    if not is_listed(rows) or len(rows) != floor.high():
        raise NoLights("there are as many rows of numbers as the floor has rows")
    for row in rows:
        if not is_listed(row) or len(row) != floor.wide():
            raise NoLights("a row has as many numbers as the floor's rows have cells")
        check_numbers(row)


def check_numbers(row):
    if not all([is_whole(value) for value in row]):
        raise NoLights("a row of numbers has whole numbers alone")


def check_start(floor, start):
    if not is_pair(start):
        raise NoPlace("a start is a place and a number")
    floor.check_place(start[0])


def spread(floor, rows, starts):
    behind = [list(row) for row in rows]
    for start in starts:
        lift(floor, behind, start)
    waiting = givers(floor, behind)
    while len(waiting) > 0:
        entry = waiting.pop()
        # A cell that was raised while it waited stands in the list again, by its greater number.
        if number_at(behind, entry[1]) == entry[0]:
            give(floor, behind, waiting, entry)
    return behind


def lift(floor, rows, start):
    place = start[0]
    if not floor.is_wall(place):
        rows[place[0]][place[1]] = max(start[1], number_at(rows, place))


def givers(floor, rows):
    # A cell with the least number of all has nothing to give to a cell beside it.
    least = min([min(row) for row in rows])
    places = [place for place in floor.places() if not floor.is_wall(place)]
    return sorted([(number_at(rows, place), place) for place in places if number_at(rows, place) > least])


def give(floor, rows, waiting, entry):
    for near in floor.beside(entry[1]):
        number = entry[0] - floor.loss(near)
        if number > number_at(rows, near):
            rows[near[0]][near[1]] = number
            insert_in_order(waiting, (number, near))


def insert_in_order(waiting, entry):
    # The greatest number stays last and is taken first: by losses above 0 it can't be raised again.
    low = 0
    high = len(waiting)
    while low < high:
        middle = (low + high) // 2
        if waiting[middle] < entry:
            low = middle + 1
        else:
            high = middle
    waiting.insert(low, entry)


def number_at(rows, place):
    return rows[place[0]][place[1]]


def unlike(before, behind):
    return [place for place in places_of(before) if number_at(before, place) != number_at(behind, place)]
