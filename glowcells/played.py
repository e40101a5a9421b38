"""Rows of deeds as texts: written, read back, and played in a hall."""

from glowcells.boards import LAMP_WORDS, PARTS
from glowcells.errors import NoText
from glowcells.halls import is_colour
from glowcells.kinds import is_listed
from glowcells.texts import read_number

MOST_PLAYED_FIGURES = 200


def write_deeds(deeds):
    return "\n".join([write_deed(deed) for deed in deeds])


def write_deed(deed):
    words = []
    for part in deed:
        if is_listed(part):
            words.extend([str(number) for number in part])
        else:
            words.append(str(part))
    return " ".join(words)


def read_deeds(text):
    if text == "":
        return []
    deeds = []
    for number, line in enumerate(text.split("\n")):
        deed = read_deed(line)
        if deed is None:
            raise NoText(number)
        deeds.append(deed)
    return deeds


def read_deed(line):
    # None stands for a row that is not written as a deed is.
    words = line.split(" ")
    if words[0] not in PARTS:
        return None
    if words[0] not in LAMP_WORDS:
        return deed_of(words[:1], words[1:])
    if len(words) == 1 or not is_colour(words[1]):
        return None
    return deed_of(words[:2], words[2:])


def deed_of(head, words):
    numbers = [read_number(word, MOST_PLAYED_FIGURES) for word in words]
    parts = PARTS[head[0]]
    many = parts.count("place")
    if None in numbers or len(numbers) != len(parts) + many:
        return None
    # Places stand ahead of all else, and each has two numbers.
    places = [(numbers[2 * number], numbers[2 * number + 1]) for number in range(many)]
    return tuple(head + places + numbers[2 * many:])


def play(hall, text):
    return hall.do_all(read_deeds(text))
