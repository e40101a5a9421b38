"""Lights by their definition, the ways by which they come, and the cells that are off."""

from glowcells.lamps import looked_over
from glowcells.spreading import check_rows, number_at, spread


def lights(floor, lamps):
    return lit(floor, looked_over(floor, lamps))


def lit(floor, lamps):
    noughts = [[0] * floor.wide() for row in range(floor.high())]
    return spread(floor, noughts, lamps)


def way_to(floor, lamps, place):
    looked = looked_over(floor, lamps)
    floor.check_place(place)
    return way_by_sources(floor, dict(looked), lit(floor, looked), tuple(place))


def way_by_sources(floor, strengths, rows, place):
    source = source_of(floor, strengths, rows, place)
    if source is None:
        return []
    way = [place]
    # The cell that is its own source has the lamp at which the way begins.
    while source != way[-1]:
        way.append(source)
        source = source_of(floor, strengths, rows, source)
    return list(reversed(way))


def source_of(floor, strengths, rows, place):
    light = number_at(rows, place)
    if light == 0:
        return None
    if strengths.get(place, 0) == light:
        return place
    loss = floor.loss(place)
    for near in floor.beside(place):
        if number_at(rows, near) - loss == light:
            return near
    return None


def off(floor, lamps, rows):
    strengths = dict(looked_over(floor, lamps))
    check_rows(floor, rows)
    return [place for place in floor.places() if number_at(rows, place) != due(floor, strengths, rows, place)]


def due(floor, strengths, rows, place):
    if floor.is_wall(place):
        return 0
    loss = floor.loss(place)
    given = [number_at(rows, near) - loss for near in floor.beside(place)]
    return max([0, strengths.get(place, 0)] + given)
