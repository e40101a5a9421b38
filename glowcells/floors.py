"""Floors: cells in rows, each with its loss."""

from glowcells.errors import NoFloor, NoLoss, NoPlace
from glowcells.kinds import is_listed, is_pair, is_whole

WALL_LOSS = 0
OPEN_LOSS = 1
LEAST_GLASS = 2
MOST = 30


class Floor:
    def __init__(self, rows):
        if not is_rectangle(rows):
            raise NoFloor("a floor has one to thirty rows, all of the same one to thirty cells")
        for row in rows:
            check_losses(row)
        # Tuples, so that neither the rows handed in nor those told lead back in here.
        self.losses = tuple([tuple(row) for row in rows])

    def high(self):
        return len(self.losses)

    def wide(self):
        return len(self.losses[0])

    def rows(self):
        return [list(row) for row in self.losses]

    def loss(self, place):
        self.check_place(place)
        return self.losses[place[0]][place[1]]

    def beside(self, place):
        self.check_place(place)
        return [near for near in around(place) if self.has(near) and not self.is_wall(near)]

    def with_loss(self, place, loss):
        self.check_place(place)
        rows = self.rows()
        rows[place[0]][place[1]] = loss
        return Floor(rows)

    def places(self):
        return places_of(self.losses)

    def is_wall(self, place):
        return self.losses[place[0]][place[1]] == WALL_LOSS

    def has(self, place):
        if not is_pair(place):
            return False
        return is_within(place[0], self.high()) and is_within(place[1], self.wide())

    def check_place(self, place):
        if not self.has(place):
            raise NoPlace("a place is a row and a column within the floor")


def around(place):
    row = place[0]
    column = place[1]
    return [(row - 1, column), (row, column - 1), (row, column + 1), (row + 1, column)]


def places_of(rows):
    places = []
    for number, row in enumerate(rows):
        places.extend([(number, column) for column in range(len(row))])
    return places


def is_within(value, end):
    return is_whole(value) and 0 <= value < end


def is_rectangle(rows):
    if not is_sized(rows):
        return False
    for row in rows:
        if not is_sized(row) or len(row) != len(rows[0]):
            return False
    return True


def is_sized(listed):
    return is_listed(listed) and 1 <= len(listed) <= MOST


def check_losses(row):
    for value in row:
        if not is_loss(value):
            raise NoLoss("a loss is a whole number from 0 on of at most sixty figures")


def is_loss(value):
    return is_within(value, 10 ** 60)
