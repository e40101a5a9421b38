"""Putting out: what does not stand on a lamp goes, and what is left is mended."""

from glowcells.lamps import looked_over
from glowcells.spreading import check_rows, number_at, spread, unlike


def put_out(floor, lamps, rows):
    looked = looked_over(floor, lamps)
    check_rows(floor, rows)
    stands = standing_cells(floor, looked, rows)
    behind = rows_of_standing(rows, stands)
    places = floor.places()
    gone = [place for place in places if number_at(rows, place) != 0 and place not in stands]
    rim = [place for place in places if place in stands and is_beside_dark(floor, behind, place)]
    return (behind, gone, rim)


def mended(floor, lamps, rows):
    faded = put_out(floor, lamps, rows)[0]
    behind = spread(floor, faded, lamps)
    return (behind, unlike(rows, behind))


def standing_cells(floor, lamps, rows):
    found = [place for place, strength in lamps if number_at(rows, place) == strength]
    stands = {}
    for place in found:
        stands[place] = True
    done = 0
    while done < len(found):
        for near in leaning(floor, rows, found[done]):
            if near not in stands:
                stands[near] = True
                found.append(near)
        done += 1
    return stands


def leaning(floor, rows, place):
    # The cells beside one that stand if it does.
    number = number_at(rows, place)
    lit_beside = [near for near in floor.beside(place) if number_at(rows, near) > 0]
    return [near for near in lit_beside if number_at(rows, near) == number - floor.loss(near)]


def rows_of_standing(rows, stands):
    behind = [[0] * len(row) for row in rows]
    for place in stands:
        behind[place[0]][place[1]] = number_at(rows, place)
    return behind


def is_beside_dark(floor, rows, place):
    return any([number_at(rows, near) == 0 for near in floor.beside(place)])
