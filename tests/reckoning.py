"""What several test files share: slow ways of reckoning by the document's words, floors, and wrong inputs."""

import copy
import random

from glowcells.errors import NoFloor, NoPlace, NoStrength, Taken, Walled
from glowcells.floors import Floor

GREATEST = 10 ** 60 - 1
GREAT = 10 ** 59

NO_WHOLE = [True, False, None, "", "1", [], [1], (1,), {}, 1.0, 2.5]
NO_STRENGTHS = [0, -1, -5, -GREATEST, 10 ** 60, 10 ** 60 + 1, 10 ** 100] + NO_WHOLE
NO_GLASS = [1] + NO_STRENGTHS
# What is no rows of numbers of a floor of two rows of two cells.
NO_ROWS = [
    [], [[0, 0]], [[0, 0]] * 3, [[0], [0, 0]], [[0, 0], [0]], [[0, 0, 0], [0, 0]], [[0, 0], [0, 0, 0]],
    [[], []], (), [(0, 0)], [(0, 0), (0,)], [0, 0], [[0, 0], None], [None, [0, 0]], [[0, 0], "00"],
    None, 0, True, "", "00", {}, {0: [0, 0], 1: [0, 0]},
] + [
    [[bad, 0], [0, 0]] for bad in NO_WHOLE
] + [
    [[0, bad], [0, 0]] for bad in NO_WHOLE
] + [
    [[0, 0], [bad, 0]] for bad in NO_WHOLE
] + [
    ((0, 0), (0, bad)) for bad in NO_WHOLE
]
# Of a floor that has a wall at (0, 1).
REFUSED_LAMPS = [
    (NoPlace, [((9, 9), 0)]), (NoPlace, [(None, 5)]), (NoStrength, [((0, 1), 0)]), (NoStrength, [((0, 0), True)]),
    (Walled, [((0, 1), 5)]), (Taken, [((0, 0), 5), ((0, 0), 6)]),
]


def refused_joins():
    """What joined refuses, and by which class: twos of a floor and lamps that can't be made one."""
    good = (Floor([[1, 0], [1, 1]]), [((0, 0), 5)])
    higher = (Floor([[1, 0], [1, 1], [1, 1]]), [((0, 0), 5)])
    widest = (Floor([[1] * 30] * 2), [((0, 0), 5)])
    refused = [
        (NoFloor, good, higher), (NoFloor, higher, good), (NoFloor, good, widest), (NoFloor, widest, good),
        (NoFloor, widest, widest), (NoFloor, higher, widest), (NoFloor, widest, (Floor([[0], [0]]), [])),
        (NoFloor, (Floor([[1] * 16] * 2), []), (Floor([[1] * 15] * 2), [])),
    ]
    for kind, lamps in REFUSED_LAMPS:
        bad = (good[0], lamps)
        for other in (good, higher, widest):
            refused += [(kind, bad, other), (kind, other, bad)]
        for later, others in REFUSED_LAMPS:
            refused += [(kind, bad, (good[0], others)), (kind, bad, (higher[0], others))]
    return refused


def no_places(high, wide):
    return [
        (-1, 0), (0, -1), (-1, -1), (high, 0), (0, wide), (high, wide), (-high, -wide), (10 ** 70, 0),
        [-1, 0], [high, 0], [0, wide], [0, -1],
        (), (0,), (0, 0, 0), [], [0], [0, 0, 0], (True, 0), (0, True), (False, False), [0, False],
        (None, 0), (0, None), ("0", 0), (0, "0"), (0.0, 0), ([0], 0), (0, (0,)),
        None, True, False, 0, -1, 0.5, "", "0", "00", "(0, 0)", {}, {0: 0, 1: 0}, range(2), object(),
    ]


def places_of(rows):
    return [(row, column) for row in range(len(rows)) for column in range(len(rows[0]))]


def at(rows, place):
    return rows[place[0]][place[1]]


def around(place):
    row, column = place
    return [(row - 1, column), (row, column - 1), (row, column + 1), (row + 1, column)]


def beside(losses, place):
    return [
        near for near in around(place)
        if near[0] in range(len(losses)) and near[1] in range(len(losses[0])) and at(losses, near) > 0
    ]


def swept(losses, place, first, step):
    """For each cell that a way leads to, the least number of any way from the place: first there, and by each step
    what step makes of the number so far and the next cell; by sweeps until nothing changes."""
    least = {place: first}
    changed = True
    order = places_of(losses)
    while changed:
        changed = False
        order.reverse()
        for cell in order:
            if at(losses, cell) == 0:
                continue
            for near in beside(losses, cell):
                if near in least and (cell not in least or step(least[near], cell) < least[cell]):
                    least[cell] = step(least[near], cell)
                    changed = True
    return least


def least_losses(losses, place):
    return swept(losses, place, 0, lambda loss, cell: loss + at(losses, cell))


def slow_lights(losses, lamps):
    rows = [[0] * len(losses[0]) for row in losses]
    for place, strength in lamps:
        for cell, loss in least_losses(losses, tuple(place)).items():
            rows[cell[0]][cell[1]] = max(at(rows, cell), strength - loss)
    return rows


def slow_off(losses, lamps, rows):
    found = []
    strengths = {tuple(place): strength for place, strength in lamps}
    for place in places_of(losses):
        due = 0
        if at(losses, place) > 0:
            due = max(0, strengths.get(place, 0))
            for near in beside(losses, place):
                due = max(due, at(rows, near) - at(losses, place))
        if at(rows, place) != due:
            found.append(place)
    return found


def lacking(losses, rows):
    return [
        place for place in places_of(losses)
        if at(losses, place) > 0
        and any(at(rows, near) - at(losses, place) > at(rows, place) for near in beside(losses, place))
    ]


def unlike(before, behind):
    return [place for place in places_of(before) if at(before, place) != at(behind, place)]


def slow_raised(losses, rows, starts):
    rows = [list(row) for row in rows]
    for place, number in starts:
        if at(losses, place) > 0:
            rows[place[0]][place[1]] = max(at(rows, place), number)
    while True:
        short = lacking(losses, rows)
        if not short:
            return rows
        for place in short:
            most = max(at(rows, near) for near in beside(losses, place))
            rows[place[0]][place[1]] = max(at(rows, place), most - at(losses, place))


def way_loss(losses, way):
    return sum(at(losses, place) for place in way[1:])


def is_way(losses, way):
    if not way or any(at(losses, place) == 0 for place in way):
        return False
    return all(other in beside(losses, one) for one, other in zip(way, way[1:]))


def winding(loss=1):
    """Thirty rows of thirty cells, every second row a wall but for one cell: one way of 465 cells, from (0, 0) to (29, 29)."""
    rows = []
    for number in range(30):
        if number % 2 == 0:
            rows.append([loss] * 30)
        else:
            row = [0] * 30
            row[29 if number % 4 == 1 else 0] = loss
            rows.append(row)
    return rows


def spoil(told):
    """Fills up and empties every list in what was told."""
    if isinstance(told, (list, tuple)):
        for part in told:
            spoil(part)
    if isinstance(told, list):
        told.append("spoilt")
        if len(told) % 2 == 0:
            told.clear()


def state(hall):
    """All that a hall tells of itself."""
    return hall.floor().rows(), hall.colours(), [(hall.lamps(colour), hall.lights(colour)) for colour in hall.colours()]


def drawn_floor(draw, high, wide):
    choices = draw.choice([
        [1], [0, 1, 1, 1], [0, 1, 1, 2, 3, 5], [1, 2, 3], [0, 1, 4, 9, 40], [1, 1, GREAT, GREATEST], [0, 0, 1],
    ])
    return [[draw.choice(choices) for column in range(wide)] for row in range(high)]


def drawn_lamps(draw, losses, many):
    free = [place for place in places_of(losses) if at(losses, place) > 0]
    draw.shuffle(free)
    return [(place, draw.choice([1, 2, 3, 5, 8, 13, 30, 100, GREAT, GREATEST])) for place in free[:many]]


def drawn(seed, sizes=((1, 1), (1, 7), (7, 1), (2, 2), (5, 5), (4, 9))):
    """Floors with lamps, the same for the same seed."""
    draw = random.Random(seed)
    for high, wide in sizes:
        for many in (0, 1, 2, 5):
            losses = drawn_floor(draw, high, wide)
            yield draw, losses, drawn_lamps(draw, losses, many)


def is_whole(value):
    return type(value) is int


def is_place(losses, place):
    return (
        type(place) in (list, tuple) and len(place) == 2 and is_whole(place[0]) and is_whole(place[1])
        and tuple(place) in places_of(losses)
    )


class Model:
    """A board, or by colours a hall, as the document's words have it: floor and lamps alone, by the slowest ways."""

    NUMBERS = {"put": "strength", "turn": "strength", "glass": "loss"}
    PLACES = {"put": 1, "out": 1, "move": 2, "turn": 1, "wall": 1, "open": 1, "glass": 1}
    OF_LAMPS = ("put", "out", "move", "turn")

    def __init__(self, losses, lamps=(), colours=None):
        self.losses = [list(row) for row in losses]
        self.coloured = colours is not None
        self.lamps = {colour: {} for colour in (colours or [None])}
        for place, strength in lamps:
            self.lamps[None][place] = strength

    def parted(self, deed):
        """The deed's word, colour, places and number; None of what is no deed."""
        if type(deed) not in (list, tuple) or not deed or type(deed[0]) is not str or deed[0] not in self.PLACES:
            return None
        word, rest = deed[0], list(deed[1:])
        with_colour = self.coloured and word in self.OF_LAMPS
        if len(rest) != with_colour + self.PLACES[word] + (word in self.NUMBERS):
            return None
        colour = rest.pop(0) if with_colour else None
        return word, colour, rest[:self.PLACES[word]], rest[-1] if word in self.NUMBERS else None

    def why(self, deed):
        parted = self.parted(deed)
        if parted is None:
            return "NoDeed"
        word, colour, places, number = parted
        if self.coloured and word in self.OF_LAMPS and colour not in list(self.lamps):
            return "NoColour"
        if not all(is_place(self.losses, place) for place in places):
            return "NoPlace"
        if word in self.NUMBERS:
            least = 1 if self.NUMBERS[word] == "strength" else 2
            if not is_whole(number) or not least <= number <= GREATEST:
                return "NoStrength" if self.NUMBERS[word] == "strength" else "NoLoss"
        return self.why_not_there(word, colour, [tuple(place) for place in places])

    def why_not_there(self, word, colour, places):
        walled = at(self.losses, places[-1]) == 0
        if word in ("out", "move", "turn") and places[0] not in self.lamps[colour]:
            return "NoLamp"
        if word in ("put", "move", "glass") and walled:
            return "Walled"
        if word in ("put", "move") and places[-1] in self.lamps[colour]:
            return "Taken"
        if word == "wall" and (walled or any(places[0] in lamps for lamps in self.lamps.values())):
            return "Taken"
        return None

    def do(self, deed):
        word, colour, places, number = self.parted(deed)
        places = [tuple(place) for place in places]
        if word in ("put", "turn"):
            self.lamps[colour][places[0]] = number
        elif word == "out":
            del self.lamps[colour][places[0]]
        elif word == "move":
            self.lamps[colour][places[1]] = self.lamps[colour].pop(places[0])
        else:
            self.losses[places[0][0]][places[0][1]] = {"wall": 0, "open": 1, "glass": number}[word]

    def lights(self, colour=None):
        return slow_lights(self.losses, self.lamps[colour].items())


def changes(before, behind):
    return [(place, at(before, place), at(behind, place)) for place in unlike(before, behind)]


def drawn_deed(draw, model):
    """A deed that is mostly one that can be done, now and then one with a fault."""
    places = places_of(model.losses)
    word = draw.choice(["put", "put", "put", "out", "move", "move", "turn", "turn", "wall", "wall", "open", "glass"])
    colour = draw.choice(list(model.lamps))
    lamps = sorted(model.lamps[colour])
    first = draw.choice(lamps if lamps and word in ("out", "move", "turn") else places)
    deed = [word, first]
    if word == "move":
        deed.append(draw.choice(places))
    if word in ("put", "turn"):
        deed.append(draw.choice([1, 2, 4, 7, 12, 30, GREATEST, 0, True] if draw.random() < 0.2 else [3, 5, 8, 20]))
    if word == "glass":
        deed.append(draw.choice([2, 3, 6, GREATEST, 1, None] if draw.random() < 0.3 else [2, 3, 4]))
    if model.coloured and word in model.OF_LAMPS:
        deed.insert(1, draw.choice(["zz", None, "A"]) if draw.random() < 0.05 else colour)
    if draw.random() < 0.05:
        deed[draw.randrange(len(deed))] = draw.choice([None, "put", (0, 99), [], (-1, 0), 0])
    if draw.random() < 0.03:
        deed.append(draw.choice([None, 5, (0, 0)]))
    return draw.choice([tuple, list])(deed)


def drawn_row(draw, model, many):
    """Deeds, why the last one is refused (None where all are done), and the model behind them."""
    ahead = copy.deepcopy(model)
    deeds = []
    for number in range(many):
        deed = drawn_deed(draw, ahead)
        # Most refused ones are drawn anew, or hardly a long row would be done.
        while ahead.why(deed) is not None and draw.random() < 0.95:
            deed = drawn_deed(draw, ahead)
        deeds.append(deed)
        if ahead.why(deed) is not None:
            return deeds, ahead.why(deed), ahead
        ahead.do(deed)
    return deeds, None, ahead
