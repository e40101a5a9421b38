"""Floors and lamps cut in two and joined: each leads back to the other."""

import copy
import itertools
import unittest

from glowcells.cuts import cut, joined
from glowcells.errors import NoCut, NoFloor, NoPlace, NoStrength, Taken, Walled
from glowcells.floors import Floor
from glowcells.lights import lights
from tests.reckoning import (
    GREATEST, NO_STRENGTHS, NO_WHOLE, REFUSED_LAMPS, drawn, no_places, refused_joins, slow_lights, spoil,
)

LOSSES = [[1, 0, 2, 1], [5, 1, 1, 0]]
LAMPS = [((0, 0), 9), ((0, 2), 3), ((0, 3), GREATEST), ((1, 1), 1), ((1, 2), 4)]


def parts(pair):
    floor, lamps = pair
    return floor.rows(), lamps


class Checked(unittest.TestCase):
    def kinds(self, pair):
        self.assertEqual((type(pair), len(pair), type(pair[0]), type(pair[1])), (tuple, 2, Floor, list))
        for lamp in pair[1]:
            self.assertEqual((type(lamp), type(lamp[0])), (tuple, tuple))


class TestCut(Checked):
    def test_by_hand(self):
        for column, one, other in (
            (1, ([[1], [5]], [((0, 0), 9)]),
             ([[0, 2, 1], [1, 1, 0]], [((0, 1), 3), ((0, 2), GREATEST), ((1, 0), 1), ((1, 1), 4)])),
            (2, ([[1, 0], [5, 1]], [((0, 0), 9), ((1, 1), 1)]),
             ([[2, 1], [1, 0]], [((0, 0), 3), ((0, 1), GREATEST), ((1, 0), 4)])),
            (3, ([[1, 0, 2], [5, 1, 1]], [((0, 0), 9), ((0, 2), 3), ((1, 1), 1), ((1, 2), 4)]),
             ([[1], [0]], [((0, 0), GREATEST)])),
        ):
            for lamps in (LAMPS, LAMPS[::-1], tuple(LAMPS), [[list(place), strength] for place, strength in LAMPS]):
                told = cut(Floor(LOSSES), lamps, column)
                self.assertEqual((type(told), len(told)), (tuple, 2))
                self.assertEqual((parts(told[0]), parts(told[1])), (one, other))
                self.kinds(told[0])
                self.kinds(told[1])

    def test_without_lamps_and_with_those_of_one_side(self):
        floor = Floor([[1, 1, 1]])
        for lamps in ([], ()):
            told = cut(floor, lamps, 2)
            self.assertEqual([parts(pair) for pair in told], [([[1, 1]], []), ([[1]], [])])
        told = cut(floor, [((0, 1), 5)], 2)
        self.assertEqual([parts(pair) for pair in told], [([[1, 1]], [((0, 1), 5)]), ([[1]], [])])
        told = cut(floor, [((0, 1), 5)], 1)
        self.assertEqual([parts(pair) for pair in told], [([[1]], []), ([[1, 1]], [((0, 0), 5)])])

    def test_before_each_column_of_the_widest_floor(self):
        losses = [[(row + column) % 4 for column in range(30)] for row in range(30)]
        lamps = [((row, column), row + 1) for row in range(30) for column in range(30) if losses[row][column] > 0]
        for column in range(1, 30):
            one, other = cut(Floor(losses), lamps[::-1], column)
            self.assertEqual(one[0].rows(), [row[:column] for row in losses])
            self.assertEqual(other[0].rows(), [row[column:] for row in losses])
            self.assertEqual(one[1], [lamp for lamp in lamps if lamp[0][1] < column])
            self.assertEqual(
                other[1], [((row, place - column), strength) for (row, place), strength in lamps if place >= column],
            )

    def test_no_cut(self):
        for losses in (LOSSES, [[1] * 4], [[0] * 4] * 30):
            for column in [0, 4, 5, -1, -2, -3, 30, 10 ** 70, -10 ** 70] + NO_WHOLE:
                with self.subTest(column=column), self.assertRaises(NoCut):
                    cut(Floor(losses), [], column)

    def test_no_cut_of_one_column(self):
        for losses in ([[1]], [[1], [0], [7]]):
            for column in (0, 1, 2, -1, None, True):
                with self.assertRaises(NoCut):
                    cut(Floor(losses), [], column)

    def test_lamps_are_refused_ahead_of_no_cut(self):
        floor = Floor([[1, 0], [1, 1]])
        for column in (1, 0, 2, -1, None, True):
            for kind, lamps in REFUSED_LAMPS:
                with self.subTest(lamps=lamps, column=column), self.assertRaises(kind):
                    cut(floor, lamps, column)
            for place in no_places(2, 2):
                with self.subTest(place=place), self.assertRaises(NoPlace):
                    cut(floor, [(place, 5)], column)
            for strength in NO_STRENGTHS:
                with self.subTest(strength=strength), self.assertRaises(NoStrength):
                    cut(floor, [((0, 0), 5), ((0, 1), strength)], column)
            with self.assertRaises(Walled):
                cut(floor, [((0, 1), 5)], column)
            with self.assertRaises(Taken):
                cut(floor, [((0, 0), 5), [[0, 0], 5]], column)


class TestJoined(Checked):
    def test_by_hand(self):
        one = (Floor([[1, 0], [5, 1]]), [((1, 1), 1), ((0, 0), 9)])
        other = (Floor([[2], [1]]), [((1, 0), 4), ((0, 0), 3)])
        told = joined(one, other)
        self.kinds(told)
        asked = ([[1, 0, 2], [5, 1, 1]], [((0, 0), 9), ((0, 2), 3), ((1, 1), 1), ((1, 2), 4)])
        self.assertEqual(parts(told), asked)
        told = joined(other, one)
        self.assertEqual(
            parts(told), ([[2, 1, 0], [1, 5, 1]], [((0, 0), 3), ((0, 1), 9), ((1, 0), 4), ((1, 2), 1)]),
        )
        for form in (list, tuple):
            lists = [(pair[0], form([[list(place), strength] for place, strength in pair[1]])) for pair in (one, other)]
            self.assertEqual(parts(joined(lists[0], lists[1])), asked)
            self.assertEqual(parts(joined(list(lists[0]), list(lists[1]))), asked)

    def test_of_a_floor_with_itself(self):
        pair = (Floor([[1, 2]]), [((0, 1), 3)])
        self.assertEqual(parts(joined(pair, pair)), ([[1, 2, 1, 2]], [((0, 1), 3), ((0, 3), 3)]))
        self.assertEqual(parts(pair), ([[1, 2]], [((0, 1), 3)]))

    def test_without_lamps(self):
        self.assertEqual(parts(joined((Floor([[1]]), []), (Floor([[0]]), ()))), ([[1, 0]], []))
        self.assertEqual(parts(joined((Floor([[1]]), ()), (Floor([[1]]), [((0, 0), 2)]))), ([[1, 1]], [((0, 1), 2)]))

    def test_thirty_cells_in_a_row_just_go(self):
        for wide in (1, 2, 15, 28, 29):
            one = (Floor([[1] * wide] * 3), [((2, wide - 1), 5)])
            other = (Floor([[2] * (30 - wide)] * 3), [((0, 29 - wide), 6), ((2, 0), 7)])
            asked = ([[1] * wide + [2] * (30 - wide)] * 3, [((0, 29), 6), ((2, wide - 1), 5), ((2, wide), 7)])
            self.assertEqual(parts(joined(one, other)), asked)
            more = (Floor([[2] * (31 - wide)] * 3), [])
            with self.assertRaises(NoFloor):
                joined(one, more)
            with self.assertRaises(NoFloor):
                joined(more, one)

    def test_unlike_numbers_of_rows(self):
        for one, other in itertools.permutations((1, 2, 3, 29, 30), 2):
            with self.assertRaises(NoFloor):
                joined((Floor([[1]] * one), []), (Floor([[1]] * other), []))

    def test_refused(self):
        for kind, one, other in refused_joins():
            with self.subTest(one=parts(one), other=parts(other)):
                with self.assertRaises(kind) as taken:
                    joined(one, other)
                self.assertIs(type(taken.exception), kind)

    def test_a_lamp_beyond_its_own_floor_is_refused_though_the_joined_one_has_its_place(self):
        one, other = Floor([[1, 1]]), Floor([[1, 1]])
        for lamps in ([((0, 2), 5)], [((0, 3), 5)], [((0, -1), 5)]):
            with self.assertRaises(NoPlace):
                joined((one, lamps), (other, []))
            with self.assertRaises(NoPlace):
                joined((one, []), (other, lamps))


class TestBoth(Checked):
    def test_cut_and_joined_lead_to_each_other(self):
        for seed in range(1000, 1010):
            for draw, losses, lamps in drawn(seed, ((1, 2), (1, 7), (3, 3), (6, 5), (30, 30))):
                for column in range(1, len(losses[0])):
                    told = cut(Floor(losses), lamps, column)
                    self.assertEqual(parts(joined(told[0], told[1])), (losses, sorted(lamps)))
                    again = cut(*joined(told[0], told[1]), column)
                    self.assertEqual([parts(pair) for pair in again], [parts(pair) for pair in told])

    def test_cut_ones_are_lit_as_each_alone(self):
        for draw, losses, lamps in drawn(1011, ((1, 6), (4, 5))):
            for column in range(1, len(losses[0])):
                for floor, own in cut(Floor(losses), lamps, column):
                    self.assertEqual(lights(floor, own), slow_lights(floor.rows(), own))

    def test_what_was_handed_in_stays(self):
        floor = Floor(LOSSES)
        lamps = [[[1, 2], 4], ((0, 0), 9)]
        before = copy.deepcopy(lamps)
        told = cut(floor, lamps, 2)
        kept = copy.deepcopy([parts(pair) for pair in told])
        whole = joined(told[0], told[1])
        self.assertEqual([parts(pair) for pair in told], kept)
        self.assertEqual((floor.rows(), lamps), (LOSSES, before))
        lamps[0][0][1] = 0
        lamps.clear()
        self.assertEqual([parts(pair) for pair in told], kept)
        spoil(told[0][1])
        spoil(told[1][1])
        self.assertEqual(parts(whole), (LOSSES, [((0, 0), 9), ((1, 2), 4)]))

    def test_what_is_told_leads_nowhere(self):
        floor = Floor([[1, 1]])
        lamps = [((0, 0), 5), ((0, 1), 6)]
        for pair in cut(floor, lamps, 1):
            spoil(pair[1])
            spoil(pair[0].rows())
        self.assertEqual(lamps, [((0, 0), 5), ((0, 1), 6)])
        told = cut(floor, lamps, 1)
        self.assertEqual([parts(pair) for pair in told], [([[1]], [((0, 0), 5)]), ([[1]], [((0, 0), 6)])])
        spoil(joined(told[0], told[1])[1])
        self.assertEqual([parts(pair) for pair in told], [([[1]], [((0, 0), 5)]), ([[1]], [((0, 0), 6)])])
        self.assertEqual(parts(joined(told[0], told[1])), ([[1, 1]], lamps))


if __name__ == "__main__":
    unittest.main()
