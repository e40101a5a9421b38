"""What is touched between two rows of numbers, and its edge."""

import copy
import itertools
import random
import unittest

from glowcells.errors import NoLights
from glowcells.touched import touched
from tests.reckoning import GREATEST, NO_WHOLE, around, places_of, spoil, unlike

# What is no rows of numbers, whatever the other ones are.
NO_NUMBERS = [
    [], (), [[]], [[], []], [()], [[0, 0], [0]], [[0], [0, 0]], [[0, 0], []], [[], [0]], [[0, 0], (0,)],
    [[0]] * 31, [[0] * 31], [[0] * 31] * 31, [[0] * 30] * 31, [[0] * 31] * 30,
    [0], [0, 0], [[0, 0], None], [None], [[0, 0], "00"], ["0"], [{}], None, 0, True, "", "0", {}, {0: [0]},
] + [
    [[bad]] for bad in NO_WHOLE
] + [
    [[0, 0], [0, bad]] for bad in NO_WHOLE
] + [
    ((bad, 0), (0, 0)) for bad in NO_WHOLE
]


def slow_touched(before, behind):
    places = unlike(before, behind)
    edge = {near for place in places for near in around(place)} - set(places)
    return places, sorted(edge & set(places_of(before)))


def changed(rows, places):
    rows = [list(row) for row in rows]
    for row, column in places:
        rows[row][column] += 1
    return rows


class TestTouched(unittest.TestCase):
    def check(self, before, behind):
        kept = copy.deepcopy((before, behind))
        told = touched(before, behind)
        self.assertEqual((before, behind), kept)
        self.assertEqual(told, slow_touched(before, behind))
        self.assertEqual((type(told), type(told[0]), type(told[1])), (tuple, list, list))
        self.assertEqual([type(place) for place in told[0] + told[1]], [tuple] * (len(told[0]) + len(told[1])))
        self.assertEqual(touched(behind, before), told)
        return told

    def test_alike(self):
        for rows in ([[0]], [[5, -5]], [[1], [2]], [[GREATEST] * 30] * 30):
            self.assertEqual(self.check(rows, copy.deepcopy(rows)), ([], []))
            self.assertEqual(self.check(rows, tuple(tuple(row) for row in rows)), ([], []))

    def test_of_one_cell(self):
        self.assertEqual(self.check([[0]], [[1]]), ([(0, 0)], []))

    def test_unlike_in_one_place(self):
        rows = [[0] * 4] * 3
        self.assertEqual(self.check(rows, changed(rows, [(1, 1)])), ([(1, 1)], [(0, 1), (1, 0), (1, 2), (2, 1)]))

    def test_unlike_in_corners(self):
        rows = [[0] * 4] * 3
        for place, edge in (
            ((0, 0), [(0, 1), (1, 0)]), ((0, 3), [(0, 2), (1, 3)]), ((2, 0), [(1, 0), (2, 1)]),
            ((2, 3), [(1, 3), (2, 2)]),
        ):
            self.assertEqual(self.check(rows, changed(rows, [place])), ([place], edge))

    def test_unlike_at_edges(self):
        rows = [[0] * 4] * 3
        for place, edge in (
            ((0, 1), [(0, 0), (0, 2), (1, 1)]), ((1, 0), [(0, 0), (1, 1), (2, 0)]),
            ((1, 3), [(0, 3), (1, 2), (2, 3)]), ((2, 2), [(1, 2), (2, 1), (2, 3)]),
        ):
            self.assertEqual(self.check(rows, changed(rows, [place])), ([place], edge))

    def test_edge_cells_once_each(self):
        rows = [[0] * 3] * 3
        places = [(0, 1), (1, 0), (1, 2), (2, 1)]
        self.assertEqual(
            self.check(rows, changed(rows, places)), (places, [(0, 0), (0, 2), (1, 1), (2, 0), (2, 2)]),
        )
        self.assertEqual(
            self.check(rows, changed(rows, [(0, 0), (0, 1)])), ([(0, 0), (0, 1)], [(0, 2), (1, 0), (1, 1)]),
        )

    def test_unlike_everywhere(self):
        for high, wide in ((1, 1), (1, 30), (30, 1), (30, 30)):
            rows = [[0] * wide] * high
            self.assertEqual(self.check(rows, changed(rows, places_of(rows))), (places_of(rows), []))

    def test_every_choice_of_places(self):
        rows = [[4, -2, 0], [7, 7, 1]]
        for many in range(7):
            for places in itertools.combinations(places_of(rows), many):
                self.check(rows, changed(rows, places))

    def test_numbers_of_any_sign_and_size(self):
        self.assertEqual(self.check([[1, 0, -1]], [[-1, 0, 1]]), ([(0, 0), (0, 2)], [(0, 1)]))
        self.assertEqual(self.check([[GREATEST, -GREATEST]], [[GREATEST - 1, -GREATEST]]), ([(0, 0)], [(0, 1)]))
        self.assertEqual(self.check([[-GREATEST, 3]], [[GREATEST, 3]]), ([(0, 0)], [(0, 1)]))

    def test_drawn_ones(self):
        draw = random.Random(1200)
        for high, wide in ((1, 9), (9, 1), (6, 7), (30, 30)):
            for many in (1, 2, 3, 9):
                before = [[draw.randrange(-2, 3) for column in range(wide)] for row in range(high)]
                places = places_of(before)
                self.check(before, changed(before, draw.sample(places, min(many * many, len(places)))))

    def test_lists_and_tuples(self):
        for before in ([[1, 2, 3]], ((1, 2, 3),), [(1, 2, 3)], ([1, 2, 3],)):
            for behind in ([[1, 2, 4]], ((1, 2, 4),), [(1, 2, 4)], ([1, 2, 4],)):
                self.assertEqual(self.check(before, behind), ([(0, 2)], [(0, 1)]))

    def test_nothing_leads_back(self):
        before, behind = [[1, 2]], [[1, 3]]
        spoil(touched(before, behind))
        self.assertEqual((before, behind), ([[1, 2]], [[1, 3]]))
        told = touched(before, behind)
        behind[0][0] = 9
        before.clear()
        self.assertEqual(told, ([(0, 1)], [(0, 0)]))


class TestRefused(unittest.TestCase):
    def refused(self, before, behind):
        with self.subTest(before=before, behind=behind), self.assertRaises(NoLights):
            touched(before, behind)

    def test_what_is_no_rows_of_numbers(self):
        for rows in NO_NUMBERS:
            self.refused(rows, rows)
            for other in ([[0]], [[0, 0], [0, 0]], [[0] * 30] * 30):
                self.refused(rows, other)
                self.refused(other, rows)

    def test_unlike_high_or_wide(self):
        for one, other in itertools.permutations(((1, 1), (1, 2), (2, 1), (2, 2), (29, 30), (30, 29), (30, 30)), 2):
            self.refused([[0] * one[1]] * one[0], [[0] * other[1]] * other[0])
            self.refused(((0,) * one[1],) * one[0], [[0] * other[1]] * other[0])


if __name__ == "__main__":
    unittest.main()
