"""Bright cells, and the shapes of some places."""

import copy
import itertools
import random
import unittest

from glowcells.shapes import bright, shapes
from tests.reckoning import GREATEST, around, at, places_of, spoil


def slow_shapes(places):
    """Each place a shape of its own, joined two by two as long as any two lie beside each other."""
    parts = [[place] for place in sorted({tuple(place) for place in places})]
    joined = True
    while joined:
        joined = False
        for one, other in itertools.combinations(parts, 2):
            if any(near in other for place in one for near in around(place)):
                parts.remove(other)
                one += other
                joined = True
                break
    return sorted(sorted(part) for part in parts)


class TestBright(unittest.TestCase):
    def test_numbers_above_and_below_nought(self):
        rows = [[3, -2, 0], [5, 3, -9]]
        self.assertEqual(bright(rows, 3), [(0, 0), (1, 0), (1, 1)])
        self.assertEqual(bright(rows, 4), [(1, 0)])
        self.assertEqual(bright(rows, 6), [])
        self.assertEqual(bright(rows, 0), [(0, 0), (0, 2), (1, 0), (1, 1)])
        self.assertEqual(bright(rows, 1), [(0, 0), (1, 0), (1, 1)])
        self.assertEqual(bright(rows, -2), [(0, 0), (0, 1), (0, 2), (1, 0), (1, 1)])
        self.assertEqual(bright(rows, -9), places_of(rows))
        self.assertEqual(bright(rows, -GREATEST), places_of(rows))

    def test_great_numbers(self):
        self.assertEqual(bright([[GREATEST - 1, GREATEST]], GREATEST), [(0, 1)])
        self.assertEqual(bright([[-GREATEST, 1 - GREATEST]], 1 - GREATEST), [(0, 1)])

    def test_drawn_and_the_greatest(self):
        draw = random.Random(500)
        for high, wide in ((1, 1), (1, 9), (9, 1), (5, 5), (30, 30)):
            rows = [[draw.randrange(-5, 6) for column in range(wide)] for row in range(high)]
            for least in range(-7, 8):
                asked = [place for place in places_of(rows) if at(rows, place) >= least]
                told = bright(rows, least)
                self.assertEqual(told, asked)
                self.assertEqual(bright(tuple(tuple(row) for row in rows), least), asked)
                self.assertEqual([type(place) for place in [told] + told], [list] + [tuple] * len(told))

    def test_nothing_leads_back(self):
        rows = [[1, 2]]
        spoil(bright(rows, 1))
        self.assertEqual(rows, [[1, 2]])
        self.assertEqual(bright(rows, 1), [(0, 0), (0, 1)])


class TestShapes(unittest.TestCase):
    def check(self, places):
        before = copy.deepcopy(places)
        told = shapes(places)
        self.assertEqual(told, slow_shapes(places))
        self.assertEqual(places, before)
        self.assertEqual([type(shape) for shape in [told] + told], [list] * (len(told) + 1))
        for shape in told:
            self.assertEqual([type(place) for place in shape], [tuple] * len(shape))

    def test_of_none_and_of_one(self):
        self.assertEqual(shapes([]), [])
        self.assertEqual(shapes(()), [])
        for place in ((0, 0), (0, 29), (29, 0), (29, 29), (7, 11)):
            self.assertEqual(shapes([place]), [[place]])
            self.assertEqual(shapes([list(place)]), [[place]])
            self.assertEqual(shapes([place, list(place), place]), [[place]])

    def test_of_two(self):
        self.assertEqual(shapes([(0, 1), (0, 0)]), [[(0, 0), (0, 1)]])
        self.assertEqual(shapes([(1, 0), (0, 0)]), [[(0, 0), (1, 0)]])
        self.assertEqual(shapes([(0, 2), (0, 0)]), [[(0, 0)], [(0, 2)]])
        self.assertEqual(shapes([(2, 0), (0, 0)]), [[(0, 0)], [(2, 0)]])

    def test_those_that_touch_by_a_corner_alone_are_two(self):
        self.assertEqual(shapes([(1, 1), (0, 0)]), [[(0, 0)], [(1, 1)]])
        self.assertEqual(shapes([(1, 0), (0, 1)]), [[(0, 1)], [(1, 0)]])
        self.assertEqual(shapes([(0, 0), (0, 1), (1, 1), (2, 0)]), [[(0, 0), (0, 1), (1, 1)], [(2, 0)]])

    def test_a_row_s_end_is_not_beside_the_next_row_s_beginning(self):
        self.assertEqual(shapes([(0, 29), (1, 0)]), [[(0, 29)], [(1, 0)]])

    def test_the_order_is_that_of_the_first_places(self):
        self.assertEqual(
            shapes([(2, 0), (0, 2), (1, 0), (1, 2), (2, 2)]), [[(0, 2), (1, 2), (2, 2)], [(1, 0), (2, 0)]],
        )
        self.assertEqual(shapes([(10, 0), (2, 0), (2, 10), (2, 9)]), [[(2, 0)], [(2, 9), (2, 10)], [(10, 0)]])

    def test_a_shape_that_bends_and_a_ring_round_another_one(self):
        ring = [place for place in places_of([[0] * 5] * 5) if place[0] in (0, 4) or place[1] in (0, 4)]
        self.assertEqual(shapes(ring + [(2, 2)]), [ring, [(2, 2)]])
        self.assertEqual(shapes([(0, 0), (0, 2), (1, 0), (1, 1), (1, 2)]), [[(0, 0), (0, 2), (1, 0), (1, 1), (1, 2)]])

    def test_all_small_ones(self):
        square = places_of([[0] * 3] * 3)
        for many in range(10):
            for places in itertools.combinations(square, many):
                self.check(places)

    def test_drawn_in_any_order_some_twice(self):
        draw = random.Random(501)
        for many in (3, 10, 40, 60):
            for turn in range(10):
                places = [(draw.randrange(9), draw.randrange(9)) for number in range(many)]
                self.check(places)
                self.check([list(place) for place in places])

    def test_the_greatest_ones(self):
        whole = places_of([[0] * 30] * 30)
        self.assertEqual(shapes(whole[::-1]), [whole])
        apart = [place for place in whole if sum(place) % 2 == 0]
        self.assertEqual(shapes(apart[::-1]), [[place] for place in apart])
        snake = [(row, column) for row, column in whole if row % 2 == 0 or column == (29 if row % 4 == 1 else 0)]
        self.assertEqual(shapes(snake), [snake])

    def test_nothing_leads_back(self):
        places = [[0, 1], (0, 0), (5, 5)]
        told = shapes(places)
        spoil(told)
        self.assertEqual(places, [[0, 1], (0, 0), (5, 5)])
        self.assertEqual(shapes(places), [[(0, 0), (0, 1)], [(5, 5)]])


if __name__ == "__main__":
    unittest.main()
