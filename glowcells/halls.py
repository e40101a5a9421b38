"""Halls: a floor with lamps and lights of several colours."""

from glowcells.boards import LAMP_WORDS, Board, check_form, done, done_in_row
from glowcells.errors import NoColour
from glowcells.kinds import is_listed

LETTERS = "abcdefghijklmnopqrstuvwxyz"
MOST_LETTERS = 8
MOST_COLOURS = 8


class Hall:
    def __init__(self, floor, colours):
        check_colours(colours)
        # One board a colour, so that colours can't touch one another; all of them have the same floor.
        self.boards = {}
        for colour in colours:
            self.boards[colour] = Board(floor)

    def floor(self):
        return self.board(self.colours()[0]).floor()

    def colours(self):
        return list(self.boards)

    def lamps(self, colour):
        return self.board(colour).lamps()

    def lights(self, colour):
        return self.board(colour).lights()

    def source(self, colour, place):
        return self.board(colour).source(place)

    def glow(self, place):
        return [self.board(colour).light(place) for colour in self.colours()]

    def strongest(self, place):
        shone = self.glow(place)
        most = max(shone)
        if most == 0:
            return []
        return [colour for colour, light in zip(self.colours(), shone) if light == most]

    def do(self, deed):
        return self.settle_all(done_in_hall(self.states(), deed))

    def do_all(self, deeds):
        return self.settle_all(done_in_row(done_in_hall, self.states(), deeds))

    def board(self, colour):
        check_known(self.boards, colour)
        return self.boards[colour]

    def states(self):
        states = {}
        for colour in self.colours():
            states[colour] = self.board(colour).state()
        return states

    def settle_all(self, states):
        told = []
        for colour in self.colours():
            changes = self.board(colour).settle(states[colour])
            if len(changes) > 0:
                told.append((colour, changes))
        return told


def check_colours(colours):
    if not is_listed(colours) or not 1 <= len(colours) <= MOST_COLOURS:
        raise NoColour("a hall has one to eight colours")
    if not all([is_colour(colour) for colour in colours]):
        raise NoColour("a colour is a text of one to eight small letters")
    if len(set(colours)) != len(colours):
        raise NoColour("a hall has no colour twice")


def is_colour(value):
    if not isinstance(value, str) or not 1 <= len(value) <= MOST_LETTERS:
        return False
    return all([sign in LETTERS for sign in value])


def check_known(known, colour):
    # A colour is a text first: not everything may be looked up.
    if not isinstance(colour, str) or colour not in known:
        raise NoColour("the hall does not have that colour")


def done_in_hall(states, deed):
    plain = without_colour(deed)
    behind = dict(states)
    for colour in colours_of(states, deed):
        behind[colour] = done(states[colour], plain)
    return behind


def without_colour(deed):
    # The deed as a board has it.
    plain = deed
    if is_listed(deed) and len(deed) > 1 and deed[0] in LAMP_WORDS:
        plain = (deed[0],) + tuple(deed[2:])
    check_form(plain)
    return plain


def colours_of(states, deed):
    if deed[0] in LAMP_WORDS:
        check_known(states, deed[1])
        return [deed[1]]
    return list(states)
