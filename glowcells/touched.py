"""What is touched between two rows of numbers, and the edge of that."""

from glowcells.errors import NoLights
from glowcells.floors import around, is_rectangle, places_of
from glowcells.spreading import check_numbers, unlike


def touched(before, behind):
    check_size(before)
    check_size(behind)
    if len(before) != len(behind) or len(before[0]) != len(behind[0]):
        raise NoLights("both rows of numbers are alike high and wide")
    places = unlike(before, behind)
    return (places, edge_of(places, places_of(before)))


def check_size(rows):
    if not is_rectangle(rows):
        raise NoLights("there are one to thirty rows, all of the same one to thirty numbers")
    for row in rows:
        check_numbers(row)


def edge_of(places, cells):
    within = {}
    for place in places:
        within[place] = True
    free = [cell for cell in cells if cell not in within]
    return [cell for cell in free if any([near in within for near in around(cell)])]
