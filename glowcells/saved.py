"""Halls as texts: written, and read back."""

from glowcells.errors import NoText
from glowcells.halls import MOST_COLOURS, Hall, is_colour
from glowcells.texts import MOST_FIGURES, read_floor, read_number, write_floor

INDENT = "  "


def write_hall(hall):
    lines = [write_floor(hall.floor())]
    for colour in hall.colours():
        lines.append(colour)
        lines.extend([write_lamp(lamp) for lamp in hall.lamps(colour)])
    return "\n".join(lines)


def write_lamp(lamp):
    place = lamp[0]
    return INDENT + " ".join([str(number) for number in (place[0], place[1], lamp[1])])


def read_hall(text):
    lines = text.split("\n")
    first = first_colour(lines)
    floor = read_floor("\n".join(lines[:first]))
    if first == len(lines):
        raise NoText(first)
    lamps = read_colours(floor, lines, first)
    hall = Hall(floor, list(lamps))
    hall.do_all(deeds_of(lamps))
    return hall


def first_colour(lines):
    # The number of the first row that is a colour's name; of rows without one that of all rows.
    for number, line in enumerate(lines):
        if is_colour(line):
            return number
    return len(lines)


def read_colours(floor, lines, first):
    # By each colour its lamps; the first row is a colour's.
    lamps = {}
    colour = lines[first]
    for number in range(first, len(lines)):
        line = lines[number]
        if is_colour(line):
            if line in lamps or len(lamps) == MOST_COLOURS:
                raise NoText(number)
            colour = line
            lamps[colour] = []
        else:
            lamp = read_lamp(floor, line)
            if lamp is None or not is_behind(lamp, lamps[colour]):
                raise NoText(number)
            lamps[colour].append(lamp)
    return lamps


def read_lamp(floor, line):
    # None stands for a row that is no lamp's of that floor.
    if not line.startswith(INDENT):
        return None
    numbers = [read_number(word, MOST_FIGURES) for word in line[len(INDENT):].split(" ")]
    if len(numbers) != 3 or None in numbers:
        return None
    place = (numbers[0], numbers[1])
    if not floor.has(place) or floor.is_wall(place) or numbers[2] == 0:
        return None
    return (place, numbers[2])


def is_behind(lamp, lamps):
    return len(lamps) == 0 or lamps[-1][0] < lamp[0]


def deeds_of(lamps):
    deeds = []
    for colour in lamps:
        deeds.extend([("put", colour, lamp[0], lamp[1]) for lamp in lamps[colour]])
    return deeds
