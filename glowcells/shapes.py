"""Shapes: the bright cells of rows of numbers, and places that hang together."""

from glowcells.floors import around, places_of
from glowcells.spreading import number_at


def bright(rows, least):
    return [place for place in places_of(rows) if number_at(rows, place) >= least]


def shapes(places):
    ordered = sorted(set([tuple(place) for place in places]))
    free = {}
    for place in ordered:
        free[place] = True
    told = []
    for place in ordered:
        if free[place]:
            told.append(take_shape(free, place))
    return told


def take_shape(free, first):
    free[first] = False
    found = [first]
    done = 0
    while done < len(found):
        for near in around(found[done]):
            if free.get(near, False):
                free[near] = False
                found.append(near)
        done += 1
    return sorted(found)
