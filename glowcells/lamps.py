"""Lamps: looked over by the floor on which they stand."""

from glowcells.errors import NoPlace, NoStrength, Taken, Walled
from glowcells.kinds import is_pair, is_whole


def looked_over(floor, lamps):
    strengths = {}
    for lamp in lamps:
        check_lamp(floor, lamp)
        place = tuple(lamp[0])
        check_free(floor, strengths, place)
        strengths[place] = lamp[1]
    return in_order(strengths)


def in_order(strengths):
    return sorted(strengths.items())


def check_lamp(floor, lamp):
    if not is_pair(lamp):
        raise NoPlace("a lamp is a place and a strength")
    floor.check_place(lamp[0])
    check_strength(lamp[1])


def check_strength(value):
    if not is_whole(value) or not 1 <= value < 10 ** 60:
        raise NoStrength("a strength is a whole number from 1 on of at most sixty figures")


def check_free(floor, strengths, place):
    if floor.is_wall(place):
        raise Walled("no lamp stands on a wall")
    if place in strengths:
        raise Taken("no place has two lamps")
