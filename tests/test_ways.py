"""Darkest ways, held against a slow way of reckoning, and the brightest places."""

import copy
import random
import unittest

from glowcells.errors import NoLights, NoPlace, NoWay, Walled
from glowcells.floors import Floor
from glowcells.ways import brightest, darkest
from tests.reckoning import (
    GREAT, GREATEST, NO_ROWS, at, drawn_floor, is_way, no_places, places_of, spoil, swept, winding,
)

NUMBERS = (
    [0, 1], [0, 1, 2, 3], list(range(20)), [5], [0], [-3], [-1, -2, -9], [-2, -1, 0, 1, 2],
    [GREATEST, GREAT, GREATEST - 1], [-GREATEST, GREATEST, 0], [-GREATEST, 1 - GREATEST],
)


def slow_greatest(losses, rows, start):
    """For each cell that a way leads to, the least that the greatest number of a way can be."""
    return swept(losses, start, at(rows, start), lambda most, cell: max(most, at(rows, cell)))


def drawn_rows(draw, losses):
    numbers = draw.choice(NUMBERS)
    return [[draw.choice(numbers) for loss in row] for row in losses]


class TestDarkest(unittest.TestCase):
    def check(self, losses, rows, one, other, asked):
        before = copy.deepcopy((rows, one, other))
        told = darkest(Floor(losses), rows, one, other)
        self.assertEqual((rows, one, other), before)
        self.assertEqual((type(told), len(told)), (tuple, 2))
        number, way = told
        self.assertEqual([type(place) for place in [way] + way], [list] + [tuple] * len(way))
        self.assertEqual((way[0], way[-1]), (tuple(one), tuple(other)))
        self.assertTrue(is_way(losses, way), way)
        self.assertEqual(number, max(at(rows, place) for place in way))
        self.assertEqual(number, asked)
        self.assertEqual(darkest(Floor(losses), rows, one, other), told)
        return way

    def held_against(self, losses, rows, one, other):
        with self.subTest(losses=losses, rows=rows, one=one, other=other):
            if 0 in (at(losses, one), at(losses, other)):
                with self.assertRaises(Walled):
                    darkest(Floor(losses), rows, one, other)
                return
            greatest = slow_greatest(losses, rows, one)
            if other not in greatest:
                with self.assertRaises(NoWay):
                    darkest(Floor(losses), rows, one, other)
                return
            self.check(losses, rows, one, other, greatest[other])

    def test_by_hand(self):
        losses = [[1, 1, 1], [1, 0, 1], [1, 1, 1]]
        rows = [[2, 9, 2], [3, 0, 2], [4, 5, 2]]
        self.assertEqual(
            darkest(Floor(losses), rows, (0, 0), (0, 2)),
            (5, [(0, 0), (1, 0), (2, 0), (2, 1), (2, 2), (1, 2), (0, 2)]),
        )
        self.assertEqual(darkest(Floor(losses), rows, (0, 0), (2, 0)), (4, [(0, 0), (1, 0), (2, 0)]))
        self.assertEqual(darkest(Floor(losses), rows, (0, 1), (0, 0)), (9, [(0, 1), (0, 0)]))
        self.assertEqual(darkest(Floor(losses), rows, (2, 2), (0, 2)), (2, [(2, 2), (1, 2), (0, 2)]))

    def test_a_way_around_through_the_dark(self):
        losses = [[1] * 5] * 3
        rows = [[0, 0, 0, 0, 0], [0, 7, 7, 7, 0], [3, 7, 1, 7, 3]]
        self.check(losses, rows, (2, 0), (2, 4), 3)
        self.check(losses, rows, (2, 0), (2, 2), 7)
        self.check(losses, rows, (1, 0), (1, 4), 0)

    def test_losses_count_for_nothing_but_walls(self):
        losses = [[1, GREATEST, 1], [1, 1, 1]]
        self.assertEqual(
            darkest(Floor(losses), [[1, 1, 1], [1, 2, 1]], (0, 0), (0, 2)), (1, [(0, 0), (0, 1), (0, 2)]),
        )

    def test_the_ends_count_too(self):
        self.check([[1, 1, 1]], [[8, 1, 2]], (0, 0), (0, 2), 8)
        self.check([[1, 1, 1]], [[2, 1, 8]], (0, 0), (0, 2), 8)
        self.check([[1, 1, 1]], [[-4, -9, -5]], (0, 0), (0, 2), -4)
        self.check([[1, 1, 1]], [[-5, -9, -4]], (0, 0), (0, 2), -4)

    def test_from_a_place_to_itself(self):
        for number in (0, 7, -7, GREATEST, -GREATEST):
            rows = [[1, number], [1, 1]]
            self.assertEqual(darkest(Floor([[1, 1], [1, 1]]), rows, (0, 1), [0, 1]), (number, [(0, 1)]))
        self.assertEqual(darkest(Floor([[1]]), [[4]], (0, 0), (0, 0)), (4, [(0, 0)]))
        self.assertEqual(darkest(Floor([[0, 2, 0]]), [[9, 4, 9]], (0, 1), (0, 1)), (4, [(0, 1)]))

    def test_every_two_places_of_small_floors(self):
        draw = random.Random(900)
        for high, wide in ((1, 1), (1, 5), (5, 1), (2, 2), (3, 3), (3, 4)):
            for turn in range(8):
                losses = drawn_floor(draw, high, wide)
                rows = drawn_rows(draw, losses)
                for one in places_of(losses):
                    for other in places_of(losses):
                        self.held_against(losses, rows, one, other)

    def test_drawn_ones_with_each_kind_of_numbers(self):
        draw = random.Random(901)
        for numbers in NUMBERS:
            for turn in range(6):
                losses = drawn_floor(draw, 7, 8)
                rows = [[draw.choice(numbers) for loss in row] for row in losses]
                for ends in range(4):
                    self.held_against(losses, rows, draw.choice(places_of(losses)), draw.choice(places_of(losses)))

    def test_the_greatest_floors(self):
        draw = random.Random(902)
        for turn in range(6):
            losses = drawn_floor(draw, 30, 30)
            rows = [[draw.randrange(-400, 400) for loss in row] for row in losses]
            self.held_against(losses, rows, (0, 0), (29, 29))
            self.held_against(losses, rows, draw.choice(places_of(losses)), draw.choice(places_of(losses)))

    def test_along_winding_ways(self):
        losses = winding(3)
        rows = [[(row * 31 + column * 17) % 101 for column in range(30)] for row in range(30)]
        most = max(at(rows, place) for place in places_of(losses) if at(losses, place) > 0)
        self.assertEqual(len(self.check(losses, rows, (0, 0), (29, 29), most)), 465)
        self.check(losses, rows, (28, 29), (0, 0), most)
        # The same way among cells that are all open, but brighter: it is darker than any straight one.
        bright = [[-1 if loss > 0 else 5 for loss in row] for row in losses]
        self.assertEqual(len(self.check([[1] * 30] * 30, bright, (0, 0), (29, 29), -1)), 465)

    def test_a_way_into_a_dead_end_is_none(self):
        losses = [[1, 1, 1, 1], [1, 0, 0, 1], [1, 1, 1, 0]]
        rows = [[5, 0, 0, 0], [0, 0, 0, 0], [0, 0, 0, 0]]
        self.check(losses, rows, (0, 3), (2, 2), 5)

    def test_walls_may_have_any_number(self):
        self.check([[1, 1, 1], [1, 0, 1]], [[0, 6, 0], [0, -9, 0]], (1, 0), (1, 2), 6)
        self.check([[1, 1, 1], [1, 0, 1]], [[0, 6, 0], [0, 99, 0]], (1, 0), (1, 2), 6)

    def test_lists_and_tuples_handed_in(self):
        floor = Floor([[1, 1], [1, 1]])
        asked = (2, [(0, 0), (1, 0), (1, 1)])
        for rows in ([[1, 3], [2, 1]], ((1, 3), (2, 1)), [(1, 3), [2, 1]]):
            for one in ((0, 0), [0, 0]):
                for other in ((1, 1), [1, 1]):
                    self.assertEqual(darkest(floor, rows, one, other), asked)

    def test_nothing_leads_back(self):
        floor = Floor([[1, 1]])
        rows, one, other = [[1, 2]], [0, 0], [0, 1]
        spoil(darkest(floor, rows, one, other))
        spoil(darkest(floor, rows, one, one))
        self.assertEqual((rows, one, other, floor.rows()), ([[1, 2]], [0, 0], [0, 1], [[1, 1]]))
        told = darkest(floor, rows, one, other)
        rows[0][0] = 9
        one.clear()
        self.assertEqual(told, (2, [(0, 0), (0, 1)]))


class TestRefused(unittest.TestCase):
    FLOOR = Floor([[1, 0], [1, 1]])
    ROWS = [[3, 9], [1, 2]]

    def refused(self, kind, rows, one, other):
        with self.subTest(rows=rows, one=one, other=other):
            with self.assertRaises(kind) as taken:
                darkest(self.FLOOR, rows, one, other)
            self.assertIs(type(taken.exception), kind)

    def test_rows_that_are_none_ahead_of_all_else(self):
        for rows in NO_ROWS:
            for ends in (((0, 0), (1, 1)), (None, (0, 0)), ((0, 0), (9, 9)), ((0, 1), (0, 0)), ((0, 1), (2, 2))):
                self.refused(NoLights, rows, *ends)

    def test_what_is_no_place_ahead_of_walls(self):
        for place in no_places(2, 2):
            for known in ((0, 0), (0, 1)):
                self.refused(NoPlace, self.ROWS, place, known)
                self.refused(NoPlace, self.ROWS, known, place)
            self.refused(NoPlace, self.ROWS, place, place)

    def test_a_wall_at_either_end(self):
        self.refused(Walled, self.ROWS, (0, 1), (0, 0))
        self.refused(Walled, self.ROWS, (0, 0), (0, 1))
        self.refused(Walled, self.ROWS, (0, 1), [0, 1])
        self.refused(Walled, self.ROWS, [1, 1], [0, 1])

    def test_walls_ahead_of_places_shut_off(self):
        for one, other in (((0, 1), (0, 2)), ((0, 0), (0, 1)), ((0, 1), (0, 1))):
            with self.assertRaises(Walled):
                darkest(Floor([[1, 0, 1]]), [[0, 0, 0]], one, other)

    def test_places_shut_off_from_each_other(self):
        for losses, one, other in (
            ([[1, 0, 1]], (0, 0), (0, 2)), ([[1, 0, 1]], (0, 2), (0, 0)), ([[1], [0], [1]], (2, 0), (0, 0)),
            ([[1, 0], [0, 1]], (0, 0), (1, 1)), ([[0, 1], [1, 0]], (0, 1), (1, 0)),
            ([[1] * 5, [1, 0, 0, 0, 1], [1, 0, 1, 0, 1], [1, 0, 0, 0, 1], [1] * 5], (2, 2), (0, 0)),
            # The end of a row is not beside the beginning of the next one.
            ([[1, 0, 1], [1, 0, 1]], (0, 2), (1, 0)),
        ):
            for number in (0, 7, -GREATEST):
                rows = [[number] * len(row) for row in losses]
                with self.subTest(losses=losses), self.assertRaises(NoWay):
                    darkest(Floor(losses), rows, one, other)


class TestBrightest(unittest.TestCase):
    def test_by_hand(self):
        floor = Floor([[1, 2, 0], [1, 1, 1]])
        self.assertEqual(brightest(floor, [[1, 5, 0], [3, 2, 4]]), (5, [(0, 1)]))
        self.assertEqual(brightest(floor, [[5, 5, 5], [3, 2, 5]]), (5, [(0, 0), (0, 1), (1, 2)]))
        self.assertEqual(brightest(floor, ((0, 0, 0), (0, 0, 0))), (0, [(0, 0), (0, 1), (1, 0), (1, 1), (1, 2)]))

    def test_numbers_below_nought_alone(self):
        floor = Floor([[1, 2, 0]])
        self.assertEqual(brightest(floor, [[-5, -3, 0]]), (-3, [(0, 1)]))
        self.assertEqual(brightest(floor, [[-3, -3, -9]]), (-3, [(0, 0), (0, 1)]))
        self.assertEqual(brightest(floor, [[-GREATEST, 1 - GREATEST, 0]]), (1 - GREATEST, [(0, 1)]))

    def test_walls_with_greater_numbers(self):
        self.assertEqual(brightest(Floor([[1, 0, 1]]), [[2, 9, 1]]), (2, [(0, 0)]))
        self.assertEqual(brightest(Floor([[0, 0, 1]]), [[9, 9, -1]]), (-1, [(0, 2)]))
        self.assertEqual(brightest(Floor([[1, 0, 1]]), [[2, 2, 1]]), (2, [(0, 0)]))

    def test_of_walls_alone(self):
        for rows in ([[0, 0]], [[7, 8]], [[-7, -8]]):
            self.assertEqual(brightest(Floor([[0, 0]]), rows), (0, []))
        self.assertEqual(brightest(Floor([[0] * 30] * 30), [[3] * 30] * 30), (0, []))

    def test_drawn_ones(self):
        draw = random.Random(903)
        for high, wide in ((1, 1), (1, 8), (8, 1), (5, 6), (30, 30)):
            for turn in range(12):
                losses = drawn_floor(draw, high, wide)
                rows = drawn_rows(draw, losses)
                inner = [place for place in places_of(losses) if at(losses, place) > 0]
                most = max([at(rows, place) for place in inner], default=0)
                told = brightest(Floor(losses), rows)
                self.assertEqual(told, (most, [place for place in inner if at(rows, place) == most]))
                self.assertEqual([type(part) for part in (told, told[1])], [tuple, list])
                self.assertEqual([type(place) for place in told[1]], [tuple] * len(told[1]))

    def test_rows_that_are_none(self):
        for losses in ([[1, 0], [1, 1]], [[0, 0], [0, 0]]):
            for rows in NO_ROWS:
                with self.subTest(rows=rows), self.assertRaises(NoLights):
                    brightest(Floor(losses), rows)

    def test_nothing_leads_back(self):
        floor = Floor([[1, 1]])
        rows = [[4, 4]]
        spoil(brightest(floor, rows))
        self.assertEqual((rows, floor.rows()), ([[4, 4]], [[1, 1]]))
        self.assertEqual(brightest(floor, rows), (4, [(0, 0), (0, 1)]))


if __name__ == "__main__":
    unittest.main()
