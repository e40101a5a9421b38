"""The promise over the whole program: what several modules tell of one hall agrees, whatever deeds led there."""

import random
import unittest

from glowcells.boards import Board
from glowcells.borders import over_border
from glowcells.cuts import cut, joined
from glowcells.errors import NoWay, Stopped
from glowcells.fading import mended
from glowcells.floors import Floor
from glowcells.halls import Hall
from glowcells.lights import lights, off, way_to
from glowcells.played import play, read_deeds, write_deeds
from glowcells.rims import inside, rims
from glowcells.saved import read_hall, write_hall
from glowcells.shapes import bright, shapes
from glowcells.texts import read_floor, write_floor
from glowcells.touched import touched
from glowcells.ways import brightest, darkest
from tests.reckoning import (
    Model, at, changes, drawn_floor, drawn_row, is_way, places_of, slow_lights, state, unlike, way_loss, winding,
)

COLOURS = ["red", "b", "green", "z", "aa", "q", "abcdefgh", "m"]


def played(seed, high, wide, rows, colours=None):
    """A hall and its model behind each of some drawn rows of deeds that are done, with what was told and was before."""
    draw = random.Random(seed)
    losses = drawn_floor(draw, high, wide)
    colours = draw.sample(COLOURS, colours or draw.choice([1, 2, 3, 8]))
    hall, model = Hall(Floor(losses), colours), Model(losses, (), colours)
    for number in range(rows):
        deeds, why, ahead = drawn_row(draw, model, draw.choice([1, 2, 4, 9]))
        if why is None:
            before = {colour: hall.lights(colour) for colour in colours}
            told = hall.do_all(deeds)
            model = ahead
            yield hall, model, before, deeds, told


class TestLights(unittest.TestCase):
    def anew(self, hall, model):
        self.assertEqual(hall.floor().rows(), model.losses)
        for colour in hall.colours():
            lamps = hall.lamps(colour)
            rows = hall.lights(colour)
            self.assertEqual(lamps, sorted(model.lamps[colour].items()))
            self.assertEqual(rows, slow_lights(model.losses, lamps))
            self.assertEqual(rows, lights(hall.floor(), lamps))
            self.assertEqual(rows, Board(hall.floor(), lamps).lights())
            self.assertEqual(off(hall.floor(), lamps, rows), [])

    def just_changed(self, hall, before, told):
        asked = [(colour, changes(before[colour], hall.lights(colour))) for colour in hall.colours()]
        self.assertEqual(told, [entry for entry in asked if entry[1]])
        for colour, changed in told:
            places = [place for place, one, other in changed]
            self.assertEqual(places, touched(before[colour], hall.lights(colour))[0])

    def ways_lead_to_lamps(self, hall):
        losses = hall.floor().rows()
        for colour in hall.colours():
            lamps = hall.lamps(colour)
            for place in places_of(losses):
                way = way_to(hall.floor(), lamps, place)
                light = at(hall.lights(colour), place)
                if light == 0:
                    self.assertEqual((way, hall.source(colour, place)), ([], None))
                else:
                    self.assertTrue(is_way(losses, way))
                    self.assertEqual((dict(lamps)[way[0]] - way_loss(losses, way), way[-1]), (light, place))

    def test_behind_drawn_rows_of_deeds(self):
        for seed in range(1500, 1512):
            high, wide = random.Random(seed).choice([(1, 1), (1, 7), (7, 1), (4, 4), (5, 6)])
            for hall, model, before, deeds, told in played(seed, high, wide, 20):
                self.anew(hall, model)
                self.just_changed(hall, before, told)
            self.ways_lead_to_lamps(hall)

    def test_on_a_great_floor(self):
        for hall, model, before, deeds, told in played(1512, 30, 30, 4, 2):
            self.anew(hall, model)
            self.just_changed(hall, before, told)

    def test_rows_are_right_just_where_no_cell_is_off(self):
        draw = random.Random(1513)
        for hall, model, before, deeds, told in played(1514, 4, 5, 10):
            for colour in hall.colours():
                rows, lamps = hall.lights(colour), hall.lamps(colour)
                for turn in range(5):
                    row, column = draw.choice(places_of(rows))
                    wrong = [list(line) for line in rows]
                    wrong[row][column] += draw.choice([-2, -1, 1, 3])
                    self.assertNotEqual(off(hall.floor(), lamps, wrong), [])
                    if wrong[row][column] >= 0:
                        self.assertEqual(mended(hall.floor(), lamps, wrong), (rows, [(row, column)]))

    def test_lights_before_a_row_of_deeds_are_mended_to_those_behind_it(self):
        for seed in range(1515, 1520):
            for hall, model, before, deeds, told in played(seed, 5, 5, 10):
                for colour in hall.colours():
                    rows = hall.lights(colour)
                    asked = (rows, unlike(before[colour], rows))
                    self.assertEqual(mended(hall.floor(), hall.lamps(colour), before[colour]), asked)

    def test_by_other_deeds_to_the_same_floor_and_lamps(self):
        for seed in range(1520, 1526):
            for hall, model, before, deeds, told in played(seed, 4, 5, 15):
                pass
            anew = Hall(Floor([[1] * 5] * 4), hall.colours())
            deeds = []
            for place in places_of(model.losses):
                deeds.append(("wall", place))
                if at(model.losses, place) > 0:
                    deeds.append(("open", place))
                if at(model.losses, place) > 1:
                    deeds.append(("glass", place, at(model.losses, place)))
            for colour in hall.colours():
                deeds += [("put", colour, place, strength) for place, strength in hall.lamps(colour)[::-1]]
            for deed in deeds:
                anew.do(deed)
            self.assertEqual(state(anew), state(hall))

    def test_colours_do_not_touch_one_another(self):
        for seed in range(1526, 1530):
            for hall, model, before, deeds, told in played(seed, 4, 4, 10, 3):
                for colour in hall.colours():
                    board = Board(hall.floor(), hall.lamps(colour))
                    self.assertEqual(board.lights(), hall.lights(colour))
                    for place in places_of(model.losses):
                        self.assertEqual(board.source(place), hall.source(colour, place))
                of_lamps = {deed[1] for deed in deeds if deed[0] in model.OF_LAMPS}
                if all(deed[0] in model.OF_LAMPS for deed in deeds):
                    self.assertLessEqual({colour for colour, changed in told}, of_lamps)


class TestTexts(unittest.TestCase):
    def test_written_read_and_played_on(self):
        for seed in range(1530, 1542):
            draw = random.Random(seed)
            losses = drawn_floor(draw, draw.choice([1, 4, 5]), draw.choice([1, 3, 6]))
            colours = draw.sample(COLOURS, draw.choice([1, 2, 4]))
            hall, model = Hall(Floor(losses), colours), Model(losses, (), colours)
            for number in range(15):
                other = read_hall(write_hall(hall))
                self.assertEqual((state(other), write_hall(other)), (state(hall), write_hall(hall)))
                deeds, why, ahead = drawn_row(draw, model, draw.choice([1, 3, 7]))
                if why is None:
                    text = write_deeds(deeds)
                    self.assertEqual(play(other, text), hall.do_all(deeds))
                    self.assertEqual(write_deeds(read_deeds(text)), text)
                    model = ahead
                else:
                    self.stopped(hall, deeds, why)
                    self.stopped(other, deeds, why)
                self.assertEqual((state(other), write_hall(other)), (state(hall), write_hall(hall)))

    def stopped(self, hall, deeds, why):
        before = state(hall), write_hall(hall)
        with self.assertRaises(Stopped) as taken:
            hall.do_all(deeds)
        self.assertEqual((taken.exception.at, taken.exception.why), (len(deeds) - 1, why))
        self.assertEqual((state(hall), write_hall(hall)), before)

    def test_floors(self):
        for hall, model, before, deeds, told in played(1542, 6, 6, 10):
            self.assertEqual(read_floor(write_floor(hall.floor())).rows(), model.losses)


class TestShapes(unittest.TestCase):
    def test_bright_shapes_and_their_rims_lead_to_each_other(self):
        for seed in range(1550, 1556):
            for hall, model, before, deeds, told in played(seed, 7, 7, 6):
                for colour in hall.colours():
                    rows = hall.lights(colour)
                    for least in (1, 3, 6):
                        parted = shapes(bright(rows, least))
                        self.assertEqual(sorted(sum(parted, [])), bright(rows, least))
                        for shape in parted:
                            self.assertEqual(inside(rims(shape)), shape)


class TestWays(unittest.TestCase):
    def test_no_way_is_darker_than_the_one_told(self):
        draw = random.Random(1560)
        for seed in range(1561, 1567):
            for hall, model, before, deeds, told in played(seed, 5, 5, 6):
                rows = hall.lights(hall.colours()[0])
                inner = [place for place in places_of(rows) if at(model.losses, place) > 0]
                if inner:
                    one, other = draw.choice(inner), draw.choice(inner)
                    self.none_is_darker(model.losses, rows, one, other)
                    self.assertEqual(brightest(hall.floor(), rows)[0], max(at(rows, place) for place in inner))

    def none_is_darker(self, losses, rows, one, other):
        try:
            number, way = darkest(Floor(losses), rows, one, other)
        except NoWay:
            return
        self.assertTrue(is_way(losses, way))
        self.assertEqual(number, max(at(rows, place) for place in way))
        # With a wall at each cell that is not darker, no way is left.
        dark = [[loss if light < number else 0 for loss, light in zip(*pair)] for pair in zip(losses, rows)]
        if at(dark, one) and at(dark, other):
            with self.assertRaises(NoWay):
                darkest(Floor(dark), rows, one, other)


class TestCuts(unittest.TestCase):
    def check(self, floor, lamps):
        for column in range(1, floor.wide()):
            one, other = cut(floor, lamps, column)
            again = joined(one, other)
            self.assertEqual((again[0].rows(), again[1]), (floor.rows(), lamps))
            rows, places = over_border(one, other)
            aside = [left + right for left, right in zip(lights(*one), lights(*other))]
            self.assertEqual((rows, places), (lights(floor, lamps), unlike(aside, rows)))

    def test_floors_behind_deeds(self):
        for seed in range(1570, 1575):
            for hall, model, before, deeds, told in played(seed, 4, 6, 6):
                for colour in hall.colours():
                    self.check(hall.floor(), hall.lamps(colour))

    def test_a_winding_way(self):
        self.check(Floor(winding()), [((0, 0), 300), ((29, 29), 100)])


if __name__ == "__main__":
    unittest.main()
