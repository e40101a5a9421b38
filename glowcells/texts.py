"""Floors as texts: written, and read back."""

from glowcells.errors import NoText
from glowcells.floors import LEAST_GLASS, MOST, OPEN_LOSS, WALL_LOSS, Floor

WALL_WORD = "#"
OPEN_WORD = "."
FIGURES = "0123456789"
MOST_FIGURES = 60


def write_floor(floor):
    return "\n".join([write_row(row) for row in floor.rows()])


def write_row(row):
    return " ".join([write_loss(loss) for loss in row])


def write_loss(loss):
    if loss == WALL_LOSS:
        return WALL_WORD
    if loss == OPEN_LOSS:
        return OPEN_WORD
    return str(loss)


def read_floor(text):
    rows = []
    for number, line in enumerate(text.split("\n")):
        row = read_row(line)
        if number == MOST or row is None:
            raise NoText(number)
        if number > 0 and len(row) != len(rows[0]):
            raise NoText(number)
        rows.append(row)
    return Floor(rows)


def read_row(line):
    # None stands for a row that is not written as a floor's rows are.
    row = [read_loss(word) for word in line.split(" ")]
    if len(row) > MOST or None in row:
        return None
    return row


def read_loss(word):
    # None stands for a word that is no cell's.
    if word == WALL_WORD:
        return WALL_LOSS
    if word == OPEN_WORD:
        return OPEN_LOSS
    loss = read_number(word, MOST_FIGURES)
    # Walls and open cells have words of their own.
    if loss is None or loss < LEAST_GLASS:
        return None
    return loss


def read_number(word, most):
    # None stands for a word that is no number without noughts ahead, or one of more figures than the most.
    # The length is looked at first: Python refuses to read numbers of some thousand figures.
    if not 1 <= len(word) <= most or not all([sign in FIGURES for sign in word]):
        return None
    if word.startswith("0") and word != "0":
        return None
    return int(word)
