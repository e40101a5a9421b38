"""Lights held against their definition, ways to lit cells, and the cells that are off."""

import copy
import random
import unittest

from glowcells.errors import NoLights, NoPlace
from glowcells.floors import Floor
from glowcells.lights import lights, off, way_to
from tests.reckoning import (
    GREAT, GREATEST, NO_ROWS, REFUSED_LAMPS, at, drawn, is_way, no_places, places_of, slow_lights, slow_off, spoil,
    way_loss, winding,
)


class TestLights(unittest.TestCase):
    def check(self, losses, lamps):
        told = lights(Floor(losses), lamps)
        self.assertEqual(told, slow_lights(losses, lamps))
        self.assertEqual([type(row) for row in [told] + told], [list] * (len(losses) + 1))
        self.assertEqual(off(Floor(losses), lamps, told), [])
        return told

    def test_of_one_cell(self):
        for loss in (1, 2, GREATEST):
            self.assertEqual(lights(Floor([[loss]]), []), [[0]])
            for strength in (1, 2, GREATEST):
                self.assertEqual(lights(Floor([[loss]]), [((0, 0), strength)]), [[strength]])
        self.assertEqual(lights(Floor([[0]]), []), [[0]])

    def test_along_a_row_and_a_column(self):
        self.assertEqual(lights(Floor([[1] * 6]), [((0, 1), 4)]), [[3, 4, 3, 2, 1, 0]])
        self.assertEqual(lights(Floor([[1]] * 5), [((4, 0), 3)]), [[0], [0], [1], [2], [3]])

    def test_the_first_place_of_a_way_loses_nothing_and_the_last_one_does(self):
        self.assertEqual(lights(Floor([[7, 1, 3]]), [((0, 0), 9)]), [[9, 8, 5]])
        self.assertEqual(lights(Floor([[7, 1, 3]]), [((0, 2), 9)]), [[1, 8, 9]])

    def test_light_that_just_reaches_a_cell_and_that_ends_one_short_of_it(self):
        losses = [[1, 4, 1, 6]]
        self.assertEqual(lights(Floor(losses), [((0, 0), 12)]), [[12, 8, 7, 1]])
        self.assertEqual(lights(Floor(losses), [((0, 0), 11)]), [[11, 7, 6, 0]])
        self.assertEqual(lights(Floor(losses), [((0, 0), 10)]), [[10, 6, 5, 0]])
        self.assertEqual(lights(Floor([[1, GREATEST]]), [((0, 0), GREATEST)]), [[GREATEST, 0]])
        self.assertEqual(lights(Floor([[1, GREATEST - 1]]), [((0, 0), GREATEST)]), [[GREATEST, 1]])

    def test_the_way_round_glass_where_it_loses_less(self):
        self.assertEqual(lights(Floor([[1, 5, 1], [1, 1, 1]]), [((0, 0), 10)]), [[10, 5, 6], [9, 8, 7]])

    def test_the_greatest_lamp_gives_and_not_the_nearest(self):
        self.assertEqual(lights(Floor([[1] * 5]), [((0, 4), 9), ((0, 1), 2)]), [[5, 6, 7, 8, 9]])
        self.assertEqual(lights(Floor([[1] * 5]), [((0, 0), 3), ((0, 4), 4)]), [[3, 2, 2, 3, 4]])

    def test_light_goes_round_no_corner_of_walls(self):
        self.assertEqual(lights(Floor([[1, 0], [0, 1]]), [((0, 0), 9)]), [[9, 0], [0, 0]])

    def test_a_cell_shut_in_by_walls(self):
        losses = [[1] * 5 for row in range(5)]
        for place in ((1, 2), (2, 1), (2, 3), (3, 2)):
            losses[place[0]][place[1]] = 0
        self.assertEqual(self.check(losses, [((0, 0), 50)])[2][2], 0)
        told = self.check(losses, [((2, 2), 50)])
        self.assertEqual(sum(sum(row) for row in told), 50)

    def test_no_lamps(self):
        for high, wide in ((1, 1), (1, 30), (30, 1), (5, 5), (30, 30)):
            self.assertEqual(lights(Floor([[1] * wide] * high), []), [[0] * wide] * high)
            self.assertEqual(lights(Floor([[0] * wide] * high), ()), [[0] * wide] * high)

    def test_drawn_floors_against_the_definition(self):
        for seed in range(25):
            for draw, losses, lamps in drawn(seed):
                with self.subTest(losses=losses, lamps=lamps):
                    self.check(losses, lamps)

    def test_the_greatest_floors_against_the_definition(self):
        for seed in range(2):
            for draw, losses, lamps in drawn(seed, ((30, 30),)):
                self.check(losses, lamps)

    def test_long_ways(self):
        told = self.check(winding(), [((0, 0), 470)])
        self.assertEqual([told[0][0], told[0][29], told[2][29], told[2][0]], [470, 441, 439, 410])
        self.assertEqual(told[29], [0] * 29 + [6])
        self.check(winding(3), [((28, 29), 1000), ((0, 0), 100)])
        self.check(winding(GREAT // 100), [((28, 0), GREATEST)])
        self.check(winding(), [((14, 15), 100), ((0, 0), 463), ((28, 3), 1)])

    def test_the_order_and_the_kind_of_lamps_change_nothing(self):
        floor = Floor([[1, 2, 1, 1], [1, 0, 3, 1]])
        lamps = [((0, 0), 6), ((1, 3), 4), ((0, 2), 2)]
        told = lights(floor, lamps)
        self.assertEqual(lights(floor, lamps[::-1]), told)
        self.assertEqual(lights(floor, tuple([list(place), strength] for place, strength in lamps)), told)

    def test_refused(self):
        for refusal, lamps in REFUSED_LAMPS:
            with self.assertRaises(refusal):
                lights(Floor([[1, 0]]), lamps)

    def test_nothing_handed_in_is_changed_and_nothing_told_leads_back(self):
        losses = [[1, 2], [3, 1]]
        floor = Floor(losses)
        lamps = [[[0, 0], 9]]
        told = lights(floor, lamps)
        spoil(told)
        self.assertEqual(lamps, [[[0, 0], 9]])
        self.assertEqual(floor.rows(), losses)
        self.assertEqual(lights(floor, lamps), [[9, 7], [6, 6]])


class TestWayTo(unittest.TestCase):
    def check(self, losses, lamps):
        floor = Floor(losses)
        strengths = dict(lamps)
        rows = slow_lights(losses, lamps)
        for place in places_of(losses):
            way = way_to(floor, lamps, place)
            self.assertIs(type(way), list)
            if at(rows, place) == 0:
                self.assertEqual(way, [])
                continue
            self.assertEqual([type(step) for step in way], [tuple] * len(way))
            self.assertTrue(is_way(losses, way), way)
            self.assertIn(way[0], strengths)
            self.assertEqual(way[-1], place)
            self.assertEqual(strengths[way[0]] - way_loss(losses, way), at(rows, place))

    def test_drawn_floors(self):
        for seed in range(100, 112):
            for draw, losses, lamps in drawn(seed):
                with self.subTest(losses=losses, lamps=lamps):
                    self.check(losses, lamps)

    def test_of_the_only_cell(self):
        self.assertEqual(way_to(Floor([[5]]), [((0, 0), 1)], (0, 0)), [(0, 0)])
        self.assertEqual(way_to(Floor([[5]]), [], (0, 0)), [])

    def test_of_a_dark_cell_and_of_a_wall(self):
        floor = Floor([[1, 1, 1, 0, 1]])
        for place in ((0, 2), (0, 3), (0, 4)):
            self.assertEqual(way_to(floor, [((0, 0), 2)], place), [])
        self.assertEqual(way_to(floor, [((0, 0), 2)], (0, 1)), [(0, 0), (0, 1)])
        self.assertEqual(way_to(floor, [((0, 0), 3)], [0, 2]), [(0, 0), (0, 1), (0, 2)])

    def test_to_a_lamp_that_a_greater_one_outshines(self):
        lamps = [((0, 0), 9), ((0, 2), 3)]
        self.assertEqual(way_to(Floor([[1, 1, 1]]), lamps, (0, 2)), [(0, 0), (0, 1), (0, 2)])
        self.assertEqual(way_to(Floor([[1, 1, 1]]), lamps, (0, 0)), [(0, 0)])

    def test_round_glass(self):
        way = [(0, 0), (1, 0), (1, 1), (1, 2), (0, 2)]
        self.assertEqual(way_to(Floor([[1, 5, 1], [1, 1, 1]]), [((0, 0), 10)], (0, 2)), way)

    def test_long_ways(self):
        losses = winding()
        way = way_to(Floor(losses), [((0, 0), 470)], (29, 29))
        self.assertTrue(is_way(losses, way))
        self.assertEqual((len(way), way[0], way[-1]), (465, (0, 0), (29, 29)))
        self.assertEqual(sorted(way), [place for place in places_of(losses) if at(losses, place) > 0])
        self.assertEqual(way_to(Floor(losses), [((0, 0), 464)], (29, 29)), [])
        self.assertEqual(way_to(Floor(losses), [((0, 0), 465)], (29, 29)), way)

    def test_refused(self):
        floor = Floor([[1, 0], [1, 1]])
        for place in no_places(2, 2):
            with self.subTest(place=place):
                self.assertRaises(NoPlace, way_to, floor, [], place)
                self.assertRaises(NoPlace, way_to, floor, [((0, 0), 5)], place)
                for refusal, lamps in REFUSED_LAMPS:
                    self.assertRaises(refusal, way_to, floor, lamps, place)
        for refusal, lamps in REFUSED_LAMPS:
            self.assertRaises(refusal, way_to, floor, lamps, (0, 0))

    def test_nothing_handed_in_is_changed_and_nothing_told_leads_back(self):
        floor = Floor([[1, 1, 1]])
        lamps = [[[0, 0], 9]]
        place = [0, 2]
        told = way_to(floor, lamps, place)
        spoil(told)
        self.assertEqual((lamps, place), ([[[0, 0], 9]], [0, 2]))
        self.assertEqual(way_to(floor, lamps, place), [(0, 0), (0, 1), (0, 2)])


class TestOff(unittest.TestCase):
    def check(self, losses, lamps, rows, due):
        told = off(Floor(losses), lamps, rows)
        self.assertEqual(told, slow_off(losses, lamps, rows))
        self.assertEqual([type(place) for place in told], [tuple] * len(told))
        # Rows are the lights just where no cell is off.
        self.assertEqual(told == [], [list(row) for row in rows] == due)

    def test_one_number_changed_at_each_place(self):
        for seed in range(200, 205):
            for draw, losses, lamps in drawn(seed):
                rows = slow_lights(losses, lamps)
                for place in places_of(losses):
                    for step in (-GREATEST, -1, 1, 2, GREATEST):
                        changed = copy.deepcopy(rows)
                        changed[place[0]][place[1]] += step
                        self.check(losses, lamps, changed, rows)

    def test_some_and_all_numbers_changed(self):
        for seed in range(210, 230):
            for draw, losses, lamps in drawn(seed):
                rows = slow_lights(losses, lamps)
                some = [[number + draw.choice([0, 0, 0, 1, -1, 3, -7]) for number in row] for row in rows]
                self.check(losses, lamps, some, rows)
                self.check(losses, lamps, [[number + 1 for number in row] for row in rows], rows)
                self.check(losses, lamps, [[-1 - number for number in row] for row in rows], rows)
                self.check(losses, lamps, tuple(tuple(row) for row in rows), rows)
                self.check(losses, lamps, [[draw.randrange(-3, 12) for number in row] for row in rows], rows)

    def test_by_hand(self):
        floor = Floor([[1, 0, 1, 2]])
        lamps = [((0, 2), 5)]
        self.assertEqual(off(floor, lamps, [[0, 0, 5, 3]]), [])
        self.assertEqual(off(floor, lamps, [[0, 1, 5, 3]]), [(0, 1)])
        self.assertEqual(off(floor, lamps, [[1, 0, 5, 3]]), [(0, 0)])
        self.assertEqual(off(floor, lamps, [[-1, -1, -1, -1]]), [(0, 0), (0, 1), (0, 2), (0, 3)])
        self.assertEqual(off(floor, lamps, [[0, 9, 6, 4]]), [(0, 1), (0, 2)])
        self.assertEqual(off(floor, lamps, [[0, 0, 4, 2]]), [(0, 2)])
        self.assertEqual(off(floor, lamps, [[0, 0, 5, 7]]), [(0, 2), (0, 3)])
        self.assertEqual(off(Floor([[3, 3]]), [], [[9, 6]]), [(0, 0)])
        self.assertEqual(off(floor, [], [[0, 0, 0, 0]]), [])

    def test_long_ways(self):
        losses = winding()
        lamps = [((0, 0), 470)]
        rows = slow_lights(losses, lamps)
        self.check(losses, lamps, rows, rows)
        changed = copy.deepcopy(rows)
        changed[10][10] += 1
        self.check(losses, lamps, changed, rows)

    def test_rows_that_are_none_behind_the_lamps(self):
        floor = Floor([[1, 0], [1, 1]])
        for rows in NO_ROWS:
            with self.subTest(rows=rows):
                before = copy.deepcopy(rows)
                self.assertRaises(NoLights, off, floor, [((0, 0), 5)], rows)
                self.assertRaises(NoLights, off, floor, [], rows)
                for refusal, lamps in REFUSED_LAMPS:
                    self.assertRaises(refusal, off, floor, lamps, rows)
                self.assertEqual(rows, before)

    def test_refused_lamps(self):
        for refusal, lamps in REFUSED_LAMPS:
            self.assertRaises(refusal, off, Floor([[1, 0]]), lamps, [[0, 0]])

    def test_nothing_handed_in_is_changed_and_nothing_told_leads_back(self):
        floor = Floor([[1, 1]])
        lamps = [[[0, 0], 9]]
        rows = [[0, 0]]
        told = off(floor, lamps, rows)
        spoil(told)
        self.assertEqual((lamps, rows), ([[[0, 0], 9]], [[0, 0]]))
        self.assertEqual(off(floor, lamps, rows), [(0, 0)])


class TestSameAgain(unittest.TestCase):
    def test_the_same_asked_again_is_told_the_same(self):
        draw = random.Random(7)
        losses = [[draw.choice([0, 1, 1, 2]) for column in range(12)] for row in range(12)]
        losses[0][0] = 1
        floor = Floor(losses)
        lamps = [((0, 0), 40)]
        rows = lights(floor, lamps)
        for place in places_of(losses):
            self.assertEqual(way_to(floor, lamps, place), way_to(Floor(losses), lamps, list(place)))
        self.assertEqual(lights(floor, lamps), rows)


if __name__ == "__main__":
    unittest.main()
