"""Boards: a floor, lamps and their lights, kept right behind deeds."""

from glowcells.errors import GlowError, NoColour, NoDeed, NoLamp, NoLoss, NoPlace, NoStrength, Stopped, Taken, Walled
from glowcells.floors import LEAST_GLASS, OPEN_LOSS, WALL_LOSS, is_loss
from glowcells.kinds import is_listed
from glowcells.lamps import check_free, check_strength, in_order, looked_over
from glowcells.lights import lit, source_of
from glowcells.spreading import number_at, unlike

# What stands behind a deed's word; places stand ahead, as they are looked at first.
PARTS = {
    "put": ("place", "strength"),
    "out": ("place",),
    "move": ("place", "place"),
    "turn": ("place", "strength"),
    "wall": ("place",),
    "open": ("place",),
    "glass": ("place", "loss"),
}
LAMP_WORDS = ("put", "out", "move", "turn")


class Board:
    def __init__(self, floor, lamps=None):
        looked = looked_over(floor, [] if lamps is None else lamps)
        self.ground = floor
        self.strengths = dict(looked)
        self.shine = lit(floor, looked)

    def floor(self):
        return self.ground

    def lamps(self):
        return in_order(self.strengths)

    def lights(self):
        return [list(row) for row in self.shine]

    def light(self, place):
        self.ground.check_place(place)
        return number_at(self.shine, place)

    def source(self, place):
        self.ground.check_place(place)
        return source_of(self.ground, self.strengths, self.shine, tuple(place))

    def do(self, deed):
        return self.settle(done(self.state(), deed))

    def do_all(self, deeds):
        return self.settle(done_in_row(done, self.state(), deeds))

    def state(self):
        # Neither part is ever changed: a deed makes another floor, other lamps.
        return (self.ground, self.strengths)

    def settle(self, state):
        before = self.shine
        # The lights hang on nothing but the state: where it is the same, so are they.
        if state != self.state():
            self.ground = state[0]
            self.strengths = state[1]
            self.shine = lit(self.ground, in_order(self.strengths))
        return changes(before, self.shine)


def changes(before, behind):
    return [(place, number_at(before, place), number_at(behind, place)) for place in unlike(before, behind)]


def done_in_row(step, state, deeds):
    behind = state
    for at, deed in enumerate(deeds):
        try:
            behind = step(behind, deed)
        except GlowError as refusal:
            raise Stopped(at, name_of(refusal)) from None
    return behind


def done(state, deed):
    floor = state[0]
    strengths = state[1]
    check_form(deed)
    check_parts(floor, deed)
    if deed[0] in LAMP_WORDS:
        return (floor, lamps_behind(floor, strengths, deed))
    return (floor_behind(floor, strengths, deed), strengths)


def check_form(deed):
    if not is_listed(deed) or len(deed) == 0:
        raise NoDeed("a deed is a tuple of a word and what belongs to it")
    # A word is a text first: not everything may be looked up.
    if not isinstance(deed[0], str) or deed[0] not in PARTS:
        raise NoDeed("there is no deed of that word")
    if len(deed) != 1 + len(PARTS[deed[0]]):
        raise NoDeed("a deed has just what belongs to its word")


def check_parts(floor, deed):
    for part, value in zip(PARTS[deed[0]], deed[1:]):
        if part == "place":
            floor.check_place(value)
        elif part == "strength":
            check_strength(value)
        elif not is_loss(value) or value < LEAST_GLASS:
            raise NoLoss("glass has a loss from 2 on of at most sixty figures")


def lamps_behind(floor, strengths, deed):
    word = deed[0]
    place = tuple(deed[1])
    if word != "put" and place not in strengths:
        raise NoLamp("no lamp stands there")
    behind = dict(strengths)
    if word == "put":
        check_free(floor, strengths, place)
        behind[place] = deed[2]
    elif word == "turn":
        behind[place] = deed[2]
    elif word == "out":
        behind.pop(place)
    else:
        goal = tuple(deed[2])
        check_free(floor, strengths, goal)
        behind[goal] = behind.pop(place)
    return behind


def floor_behind(floor, strengths, deed):
    word = deed[0]
    place = tuple(deed[1])
    if word == "open":
        return floor.with_loss(place, OPEN_LOSS)
    if word == "glass":
        if floor.is_wall(place):
            raise Walled("no glass is set in a wall")
        return floor.with_loss(place, deed[2])
    if floor.is_wall(place) or place in strengths:
        raise Taken("a wall or a lamp is there")
    return floor.with_loss(place, WALL_LOSS)


def name_of(refusal):
    if isinstance(refusal, NoDeed):
        return "NoDeed"
    if isinstance(refusal, NoColour):
        return "NoColour"
    if isinstance(refusal, NoPlace):
        return "NoPlace"
    if isinstance(refusal, NoStrength):
        return "NoStrength"
    if isinstance(refusal, NoLoss):
        return "NoLoss"
    if isinstance(refusal, NoLamp):
        return "NoLamp"
    if isinstance(refusal, Walled):
        return "Walled"
    return "Taken"
