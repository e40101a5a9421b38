"""Rows put out and mended, held against a slow way of reckoning which cells stand."""

import copy
import unittest

from glowcells.errors import NoLights
from glowcells.fading import mended, put_out
from glowcells.floors import Floor
from tests.reckoning import (
    GREAT, GREATEST, NO_ROWS, REFUSED_LAMPS, at, beside, drawn, places_of, slow_lights, spoil, unlike, winding,
)


def slow_standing(losses, lamps, rows):
    # What a cell stands on has a greater number, so the greater ones are looked at first.
    strengths = {tuple(place): strength for place, strength in lamps}
    stands = []
    for place in sorted(places_of(losses), key=lambda place: -at(rows, place)):
        number = at(rows, place)
        if number <= 0 or at(losses, place) == 0:
            continue
        held = [at(rows, near) - at(losses, place) for near in beside(losses, place) if near in stands]
        if number in held or strengths.get(place) == number:
            stands.append(place)
    return stands


def slow_put_out(losses, lamps, rows):
    stands = slow_standing(losses, lamps, rows)
    behind = [[0] * len(row) for row in losses]
    for place in stands:
        behind[place[0]][place[1]] = at(rows, place)
    gone = [place for place in places_of(losses) if at(rows, place) != 0 and place not in stands]
    rim = [
        place for place in places_of(losses)
        if place in stands and any(at(behind, near) == 0 for near in beside(losses, place))
    ]
    return behind, gone, rim


def drawn_rows(draw, losses, lights):
    way = draw.choice(["lights", "near", "small", "great", "other floor"])
    if way == "lights":
        return copy.deepcopy(lights)
    if way == "near":
        return [[max(0, number + draw.choice([0, 0, 0, 0, 1, -1, 2])) for number in row] for row in lights]
    if way == "small":
        return [[draw.randrange(6) for number in row] for row in lights]
    if way == "great":
        return [[draw.choice([0, 7, GREAT, GREATEST]) for number in row] for row in lights]
    free = [place for place in places_of(losses) if at(losses, place) > 0]
    return slow_lights(losses, [(place, draw.randrange(1, 30)) for place in free[:2]])


class Checked(unittest.TestCase):
    def check(self, losses, lamps, rows):
        floor = Floor(losses)
        before = copy.deepcopy((lamps, rows))
        told = put_out(floor, lamps, rows)
        self.assertEqual((type(told), told), (tuple, slow_put_out(losses, lamps, rows)))
        again = mended(floor, lamps, rows)
        lights = slow_lights(losses, lamps)
        self.assertEqual((type(again), again), (tuple, (lights, unlike(rows, lights))))
        for made in (told[0], again[0]):
            self.assertEqual([type(row) for row in [made] + made], [list] * (len(losses) + 1))
        for places in (told[1], told[2], again[1]):
            self.assertEqual([type(place) for place in [places] + places], [list] + [tuple] * len(places))
        self.assertEqual((lamps, rows), before)
        self.assertEqual(floor.rows(), [list(row) for row in losses])
        return told


class TestPutOut(Checked):
    def test_all_lit_cells_of_lights_stand(self):
        for seed in range(400, 410):
            for draw, losses, lamps in drawn(seed):
                lights = slow_lights(losses, lamps)
                told = self.check(losses, lamps, lights)
                self.assertEqual(told[:2], (lights, []))

    def test_drawn(self):
        for seed in range(410, 440):
            for draw, losses, lamps in drawn(seed):
                rows = drawn_rows(draw, losses, slow_lights(losses, lamps))
                with self.subTest(losses=losses, lamps=lamps, rows=rows):
                    self.check(losses, lamps, rows)

    def test_numbers_too_great_and_too_small(self):
        floor = Floor([[1, 1, 1, 1]])
        lamps = [((0, 0), 4)]
        self.assertEqual(put_out(floor, lamps, [[4, 3, 2, 1]]), ([[4, 3, 2, 1]], [], []))
        self.assertEqual(
            put_out(floor, lamps, [[4, 4, 3, 2]]), ([[4, 0, 0, 0]], [(0, 1), (0, 2), (0, 3)], [(0, 0)]),
        )
        self.assertEqual(put_out(floor, lamps, [[4, 3, 1, 0]]), ([[4, 3, 0, 0]], [(0, 2)], [(0, 1)]))
        self.assertEqual(put_out(floor, lamps, [[4, 3, 2, 2]]), ([[4, 3, 2, 0]], [(0, 3)], [(0, 2)]))
        self.assertEqual(
            put_out(floor, lamps, [[4, 2, 1, 0]]), ([[4, 0, 0, 0]], [(0, 1), (0, 2)], [(0, 0)]),
        )

    def test_a_lamp_whose_cell_has_another_number(self):
        floor = Floor([[1, 1, 1]])
        for first in (0, 3, 5):
            rows = [[first, 3, 2]]
            gone = [(0, 0), (0, 1), (0, 2)][first == 0:]
            self.assertEqual(put_out(floor, [((0, 0), 4)], rows), ([[0, 0, 0]], gone, []))
        # It may stand on a cell beside it all the same.
        self.assertEqual(put_out(floor, [((0, 0), 9), ((0, 1), 4)], [[9, 8, 7]]), ([[9, 8, 7]], [], []))
        self.assertEqual(put_out(floor, [((0, 0), 9), ((0, 1), 4)], [[9, 4, 3]]), ([[9, 4, 3]], [], []))

    def test_a_cell_that_stands_may_still_lack(self):
        floor = Floor([[1, 1, 1]])
        lamps = [((0, 0), 9), ((0, 2), 3)]
        self.assertEqual(put_out(floor, lamps, [[9, 2, 3]]), ([[9, 2, 3]], [], []))
        self.assertEqual(mended(floor, lamps, [[9, 2, 3]]), ([[9, 8, 7]], [(0, 1), (0, 2)]))

    def test_the_loss_is_that_of_the_cell_that_stands_on_another_one(self):
        floor = Floor([[5, 2, 3]])
        self.assertEqual(put_out(floor, [((0, 0), 9)], [[9, 7, 4]]), ([[9, 7, 4]], [], []))
        self.assertEqual(put_out(floor, [((0, 0), 9)], [[9, 4, 2]]), ([[9, 0, 0]], [(0, 1), (0, 2)], [(0, 0)]))

    def test_what_holds_each_other_up_in_a_ring_without_a_lamp_goes(self):
        losses = [[1, 1, 1], [1, 0, 1], [1, 1, 1]]
        everywhere = [place for place in places_of(losses) if place != (1, 1)]
        dark = [[0] * 3] * 3
        self.assertEqual(put_out(Floor(losses), [], [[5, 5, 5], [5, 0, 5], [5, 5, 5]]), (dark, everywhere, []))
        self.assertEqual(put_out(Floor(losses), [], [[5, 4, 3], [4, 0, 2], [3, 2, 1]]), (dark, everywhere, []))
        self.assertEqual(put_out(Floor(losses), [], [[5, 4, 5], [4, 0, 4], [5, 4, 5]]), (dark, everywhere, []))
        self.check(losses, [((0, 0), 5)], [[5, 4, 5], [4, 0, 4], [5, 4, 5]])

    def test_numbers_at_walls(self):
        floor = Floor([[1, 0, 1]])
        self.assertEqual(put_out(floor, [], [[0, 7, 0]]), ([[0, 0, 0]], [(0, 1)], []))
        self.assertEqual(
            put_out(floor, [((0, 0), 8)], [[8, 7, 6]]), ([[8, 0, 0]], [(0, 1), (0, 2)], []),
        )
        self.assertEqual(put_out(floor, [((0, 0), 8)], [[8, 8, 0]]), ([[8, 0, 0]], [(0, 1)], []))

    def test_the_rim_has_cells_beside_that_were_dark_already_and_none_at_walls(self):
        self.assertEqual(put_out(Floor([[1, 1, 1]]), [((0, 0), 2)], [[2, 1, 0]]), ([[2, 1, 0]], [], [(0, 1)]))
        self.assertEqual(put_out(Floor([[1, 1, 0]]), [((0, 0), 2)], [[2, 1, 0]]), ([[2, 1, 0]], [], []))
        self.assertEqual(put_out(Floor([[1]]), [((0, 0), 2)], [[2]]), ([[2]], [], []))
        told = put_out(Floor([[1, 1, 1]] * 3), [((1, 1), 1)], [[0] * 3, [0, 1, 0], [0] * 3])
        self.assertEqual(told[1:], ([], [(1, 1)]))

    def test_long_ways(self):
        losses = winding()
        rows = slow_lights(losses, [((0, 0), 470), ((29, 29), 100)])
        self.check(losses, [((0, 0), 470), ((29, 29), 100)], rows)
        self.check(losses, [((0, 0), 470)], rows)
        self.check(losses, [((29, 29), 100)], rows)
        self.check(losses, [((29, 29), 500), ((0, 0), 470)], tuple(tuple(row) for row in rows))
        told = put_out(Floor(losses), [], rows)
        self.assertEqual((len(told[1]), told[2]), (465, []))
        for draw, losses, lamps in drawn(441, ((30, 30),)):
            self.check(losses, lamps, drawn_rows(draw, losses, slow_lights(losses, lamps)))

    def test_lists_and_tuples_handed_in(self):
        for rows in ([[3, 9]], ((3, 9),), [(3, 9)]):
            for lamps in ([((0, 0), 3)], (((0, 0), 3),), [[[0, 0], 3]], ([(0, 0), 3],)):
                self.assertEqual(put_out(Floor([[1, 1]]), lamps, rows), ([[3, 0]], [(0, 1)], [(0, 0)]))
                self.assertEqual(mended(Floor([[1, 1]]), lamps, rows), ([[3, 2]], [(0, 1)]))


class TestMended(Checked):
    def test_of_lights_nothing_changes(self):
        floor = Floor([[1, 2, 1]])
        self.assertEqual(mended(floor, [((0, 0), 5)], [[5, 3, 2]]), ([[5, 3, 2]], []))

    def test_places_are_told_by_the_rows_at_first(self):
        floor = Floor([[1, 1, 1, 0]])
        # Put out and raised to the same number again: not told.
        self.assertEqual(mended(floor, [((0, 0), 5)], [[4, 4, 3, 0]]), ([[5, 4, 3, 0]], [(0, 0)]))
        self.assertEqual(mended(floor, [], [[4, 4, 3, 2]]), ([[0, 0, 0, 0]], [(0, 0), (0, 1), (0, 2), (0, 3)]))
        self.assertEqual(mended(floor, [((0, 1), 1)], [[0, 0, 0, 0]]), ([[0, 1, 0, 0]], [(0, 1)]))


class TestRefused(unittest.TestCase):
    FLOOR = Floor([[1, 0], [1, 1]])

    def test_rows_that_are_none_behind_the_lamps(self):
        for call in (put_out, mended):
            for rows in NO_ROWS:
                with self.subTest(rows=rows):
                    for lamps in ([], [((0, 0), 5)]):
                        self.assertRaises(NoLights, call, self.FLOOR, lamps, rows)
                    for refusal, lamps in REFUSED_LAMPS:
                        self.assertRaises(refusal, call, self.FLOOR, lamps, rows)

    def test_lamps(self):
        for refusal, lamps in REFUSED_LAMPS:
            for call in (put_out, mended):
                self.assertRaises(refusal, call, self.FLOOR, lamps, [[0, 0], [0, 0]])


class TestNothingLeadsBack(unittest.TestCase):
    def test_told_lists_are_spoilt(self):
        floor = Floor([[1, 1, 1]])
        rows = [[4, 3, 7]]
        lamps = [[[0, 0], 4]]
        for call in (put_out, mended):
            told = copy.deepcopy(call(floor, lamps, rows))
            spoil(call(floor, lamps, rows))
            self.assertEqual((rows, lamps, floor.rows()), ([[4, 3, 7]], [[[0, 0], 4]], [[1, 1, 1]]))
            self.assertEqual(call(floor, lamps, rows), told)


if __name__ == "__main__":
    unittest.main()
