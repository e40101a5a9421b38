"""Rims of shapes, held against the document's words, and the places inside them."""

import collections
import copy
import itertools
import random
import unittest

from glowcells.rims import inside, rims
from glowcells.shapes import shapes
from tests.reckoning import around, places_of, spoil, winding

TURNED_RIGHT = {(0, 1): (1, 0), (1, 0): (0, -1), (0, -1): (-1, 0), (-1, 0): (0, 1)}


def drawn_as(*lines):
    """The places of the signs # in rows of signs."""
    return [(row, column) for row, line in enumerate(lines) for column, sign in enumerate(line) if sign == "#"]


def slow_sides(shape):
    """All sides of the shape, each from its first corner to its second one with the cell at its right hand."""
    sides = []
    for row, column in shape:
        if (row - 1, column) not in shape:
            sides.append(((row, column), (row, column + 1)))
        if (row, column + 1) not in shape:
            sides.append(((row, column + 1), (row + 1, column + 1)))
        if (row + 1, column) not in shape:
            sides.append(((row + 1, column + 1), (row + 1, column)))
        if (row, column - 1) not in shape:
            sides.append(((row + 1, column), (row, column)))
    return sides


def sides_in(rim):
    return list(zip(rim, rim[1:] + rim[:1]))


def heading(side):
    return side[1][0] - side[0][0], side[1][1] - side[0][1]


def slow_inside(told):
    """Cell by cell, the sides counted that go along rows and lie straight above it."""
    sides = [side for rim in told for side in sides_in(rim) if side[0][0] == side[1][0]]
    above = collections.Counter((begin[0], min(begin[1], end[1])) for begin, end in sides)
    return [
        (row, column) for row, column in places_of([[0] * 31] * 31)
        if sum(above[(height, column)] for height in range(row + 1)) % 2 == 1
    ]


def is_whole_shape(places):
    found, waiting = set(), list(places[:1])
    while waiting:
        place = waiting.pop()
        if place in places and place not in found:
            found.add(place)
            waiting += around(place)
    return len(found) == len(places)


ONE = [(0, 0), (0, 1), (1, 1), (1, 0)]
SHAPES = {
    "one cell": drawn_as("#"),
    "one cell elsewhere": [(7, 4)],
    "the last cell": [(29, 29)],
    "a row": drawn_as("#####"),
    "a column": drawn_as("#", "#", "#"),
    "a block": drawn_as("###", "###"),
    "a bend": drawn_as("##", "#."),
    "a bend whose first cell has none below": drawn_as("##", ".#"),
    "one that begins right of its left end": drawn_as("..#", "###"),
    "a ring": drawn_as("###", "#.#", "###"),
    "a ring with a wide hole": drawn_as("#####", "#...#", "#...#", "#####"),
    "a hole that bends": drawn_as("#####", "#.###", "#...#", "#####"),
    "a hole whose least corner is not at its left end": drawn_as("#####", "###.#", "#...#", "#####"),
    "several holes": drawn_as("#####", "#.#.#", "#####", "#.#.#", "#####"),
    "holes in one row and one column": drawn_as("#######", "#.#.#.#", "#######", "###.###", "#######"),
    "holes that touch, down to the right": drawn_as("####", "#.##", "##.#", "####"),
    "holes that touch, down to the left": drawn_as("####", "##.#", "#.##", "####"),
    "three holes that touch around a cell": drawn_as("#####", "##.##", "#.#.#", "#####"),
    "a hole that touches the outside, up to the left": drawn_as(".##", "#.#", "###"),
    "a hole that touches the outside, up to the right": drawn_as("##.", "#.#", "###"),
    "a hole that touches the outside, down to the left": drawn_as("###", "#.#", ".##"),
    "a hole that touches the outside, down to the right": drawn_as("###", "#.#", "##."),
    "two cells that touch with a way around": drawn_as("##..", "#.#.", "###."),
    "two cells that touch with a long way around": drawn_as(".####", "#...#", "#...#", "#####"),
    "two such pairs": drawn_as(".####", "#.#.#", "###.#", "####."),
    "a comb": drawn_as("#.#.#.#", "#.#.#.#", "#######"),
    "a snail": drawn_as("#######", "#.....#", "#.###.#", "#.#...#", "#.#####", "#......", "#######"),
}
WHOLE = places_of([[0] * 30] * 30)
GREATEST = {
    "a whole floor": WHOLE,
    "a great ring": [place for place in WHOLE if 0 in place or 29 in place],
    "many holes": [place for place in WHOLE if place[0] % 2 == 0 or place[1] % 2 == 0],
    "a winding way": [(row, column) for row, column in WHOLE if winding()[row][column]],
    "combs": [place for place in WHOLE if place[0] == 0 or place[1] % 2 == 0],
    "holes that all touch": [place for place in WHOLE if sum(place) % 4 != 2 or 0 in place or 29 in place],
}


class Checked(unittest.TestCase):
    def check(self, shape):
        before = copy.deepcopy(shape)
        told = rims(shape)
        self.assertEqual(shape, before)
        self.assertEqual([type(part) for part in [told] + told], [list] * (len(told) + 1))
        for rim in told:
            self.assertEqual([type(corner) for corner in rim], [tuple] * len(rim))
        sides = slow_sides([tuple(place) for place in shape])
        self.assertEqual(sorted(side for rim in told for side in sides_in(rim)), sorted(sides))
        for rim in told:
            self.begins_right(rim)
        self.turns_right(told, sides)
        self.assertEqual(told, sorted(told, key=lambda rim: rim[:2]))
        return told

    def begins_right(self, rim):
        self.assertEqual(rim[0], min(rim))
        to_the_right = (rim[0], (rim[0][0], rim[0][1] + 1))
        if to_the_right in sides_in(rim):
            self.assertEqual(rim[1], to_the_right[1])

    def turns_right(self, told, sides):
        beginning = collections.Counter(begin for begin, end in sides)
        for rim in told:
            walk = sides_in(rim)
            for side, following in zip(walk, walk[1:] + walk[:1]):
                if beginning[side[1]] == 2:
                    self.assertEqual(heading(following), TURNED_RIGHT[heading(side)])

    def check_inside(self, shape, draw):
        asked = sorted(tuple(place) for place in shape)
        told = rims(shape)
        before = copy.deepcopy(told)
        self.assertEqual(inside(told), asked)
        self.assertEqual(told, before)
        mixed = draw.sample(told, len(told))
        turned = [rim[len(rim) // 2:] + rim[:len(rim) // 2] for rim in told]
        for other in (
            told[::-1], mixed, tuple(told), [tuple(rim) for rim in mixed], tuple(tuple(rim) for rim in told),
            [[list(corner) for corner in rim] for rim in mixed], turned, [rim[::-1] for rim in mixed],
        ):
            places = inside(other)
            self.assertEqual(places, asked)
            self.assertEqual([type(place) for place in [places] + places], [list] + [tuple] * len(asked))


class TestRims(Checked):
    def test_one_cell(self):
        self.assertEqual(rims([(0, 0)]), [ONE])
        self.assertEqual(rims(([0, 0],)), [ONE])
        self.assertEqual(rims([(7, 4)]), [[(7, 4), (7, 5), (8, 5), (8, 4)]])
        self.assertEqual(rims([(29, 29)]), [[(29, 29), (29, 30), (30, 30), (30, 29)]])

    def test_a_row_a_column_and_a_block(self):
        self.assertEqual(rims([(0, 0), (0, 1)]), [[(0, 0), (0, 1), (0, 2), (1, 2), (1, 1), (1, 0)]])
        self.assertEqual(rims([(1, 3), (0, 3)]), [[(0, 3), (0, 4), (1, 4), (2, 4), (2, 3), (1, 3)]])
        self.assertEqual(
            rims(drawn_as("##", "##")), [[(0, 0), (0, 1), (0, 2), (1, 2), (2, 2), (2, 1), (2, 0), (1, 0)]],
        )

    def test_the_least_corner_is_that_of_the_first_row(self):
        self.assertEqual(
            rims(drawn_as(".#", "##")), [[(0, 1), (0, 2), (1, 2), (2, 2), (2, 1), (2, 0), (1, 0), (1, 1)]],
        )

    def test_a_ring_has_two(self):
        outer = [(0, 0), (0, 1), (0, 2), (0, 3), (1, 3), (2, 3), (3, 3), (3, 2), (3, 1), (3, 0), (2, 0), (1, 0)]
        self.assertEqual(rims(drawn_as("###", "#.#", "###")), [outer, [(1, 1), (2, 1), (2, 2), (1, 2)]])

    def test_holes_that_touch_have_one_rim(self):
        told = rims(drawn_as("####", "#.##", "##.#", "####"))
        self.assertEqual(told[1:], [[(1, 1), (2, 1), (2, 2), (3, 2), (3, 3), (2, 3), (2, 2), (1, 2)]])
        told = rims(drawn_as("####", "##.#", "#.##", "####"))
        self.assertEqual(told[1:], [[(1, 2), (2, 2), (2, 1), (3, 1), (3, 2), (2, 2), (2, 3), (1, 3)]])

    def test_a_hole_that_touches_the_outside_has_none_of_its_own(self):
        self.assertEqual(rims(drawn_as(".##", "#.#", "###")), [[
            (0, 1), (0, 2), (0, 3), (1, 3), (2, 3), (3, 3), (3, 2), (3, 1), (3, 0), (2, 0), (1, 0), (1, 1),
            (2, 1), (2, 2), (1, 2), (1, 1),
        ]])
        self.assertEqual(rims(drawn_as("##.", "#.#", "###")), [[
            (0, 0), (0, 1), (0, 2), (1, 2), (1, 1), (2, 1), (2, 2), (1, 2), (1, 3), (2, 3), (3, 3), (3, 2), (3, 1),
            (3, 0), (2, 0), (1, 0),
        ]])

    def test_rims_in_the_order_of_their_first_corners(self):
        told = rims(drawn_as("#####", "#.#.#", "#####", "#.#.#", "#####"))
        self.assertEqual([rim[0] for rim in told], [(0, 0), (1, 1), (1, 3), (3, 1), (3, 3)])
        self.assertEqual([rim[1] for rim in told], [(0, 1), (2, 1), (2, 3), (4, 1), (4, 3)])

    def test_by_the_document_s_words(self):
        for name, shape in SHAPES.items():
            with self.subTest(name):
                self.assertTrue(is_whole_shape(shape))
                self.check(shape)

    def test_places_in_any_order_as_tuples_or_lists(self):
        draw = random.Random(800)
        for name, shape in SHAPES.items():
            told = rims(shape)
            for turn in range(5):
                mixed = draw.sample(shape, len(shape))
                with self.subTest(name, shape=mixed):
                    self.assertEqual(rims(mixed), told)
                    self.assertEqual(rims(tuple(mixed)), told)
                    self.assertEqual(rims([draw.choice([list, tuple])(place) for place in mixed]), told)

    def test_every_shape_of_a_small_square(self):
        square = places_of([[0] * 4] * 3)
        for many in range(1, 13):
            for places in itertools.combinations(square, many):
                if is_whole_shape(places):
                    self.check(list(places))

    def test_drawn_ones(self):
        draw = random.Random(801)
        for many in (30, 45, 60, 75):
            for turn in range(8):
                for shape in shapes(draw.sample(places_of([[0] * 10] * 10), many)):
                    self.check(shape[::-1])

    def test_on_the_greatest_floor(self):
        for name, shape in GREATEST.items():
            with self.subTest(name):
                self.assertTrue(is_whole_shape(shape))
                self.check(shape)
        self.assertEqual(len(rims(GREATEST["many holes"])), 1 + 14 * 14)
        self.assertEqual([len(rim) for rim in rims(WHOLE)], [120])
        self.assertEqual([len(rim) for rim in rims(GREATEST["a great ring"])], [120, 112])

    def test_nothing_leads_back(self):
        shape = [[0, 1], (0, 0), [1, 0]]
        told = rims(shape)
        kept = copy.deepcopy(told)
        spoil(told)
        self.assertEqual(shape, [[0, 1], (0, 0), [1, 0]])
        self.assertEqual(rims(shape), kept)
        told = rims(shape)
        shape.clear()
        self.assertEqual(told, kept)


class TestInside(Checked):
    def test_by_hand(self):
        self.assertEqual(inside([ONE]), [(0, 0)])
        self.assertEqual(inside(([[3, 5], [3, 6], [4, 6], [5, 6], [5, 5], [4, 5]],)), [(3, 5), (4, 5)])
        outer = [(0, 0), (0, 1), (0, 2), (0, 3), (1, 3), (2, 3), (3, 3), (3, 2), (3, 1), (3, 0), (2, 0), (1, 0)]
        hole = [(1, 1), (2, 1), (2, 2), (1, 2)]
        for told in ([outer, hole], [hole, outer]):
            self.assertEqual(inside(told), drawn_as("###", "#.#", "###"))
        self.assertEqual(inside([outer]), drawn_as("###", "###", "###"))

    def test_by_the_count_of_sides_above(self):
        for shape in list(SHAPES.values()) + list(GREATEST.values()):
            self.assertEqual(inside(rims(shape)), slow_inside(rims(shape)))

    def test_inside_a_shape_s_rims_is_the_shape(self):
        draw = random.Random(802)
        for name, shape in list(SHAPES.items()) + list(GREATEST.items()):
            with self.subTest(name):
                self.check_inside(shape, draw)

    def test_of_every_shape_of_a_small_square(self):
        for many in range(1, 10):
            for places in itertools.combinations(places_of([[0] * 3] * 3), many):
                if is_whole_shape(places):
                    self.assertEqual(inside(rims(places)), list(places))

    def test_of_drawn_ones(self):
        draw = random.Random(803)
        for many in (30, 45, 60, 75):
            for turn in range(5):
                for shape in shapes(draw.sample(places_of([[0] * 10] * 10), many)):
                    self.check_inside(shape, draw)

    def test_nothing_leads_back(self):
        told = rims([(0, 0), (0, 1)])
        kept = copy.deepcopy(told)
        spoil(inside(told))
        self.assertEqual(told, kept)
        self.assertEqual(inside(told), [(0, 0), (0, 1)])


if __name__ == "__main__":
    unittest.main()
