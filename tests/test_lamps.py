"""Lamps looked over by a floor: how they are told, and in which order they are refused."""

import copy
import itertools
import unittest

from glowcells.errors import NoPlace, NoStrength, Taken, Walled
from glowcells.floors import Floor
from glowcells.lamps import looked_over
from tests.reckoning import GREATEST, NO_STRENGTHS, no_places, spoil

LOSSES = [[1, 0, 2], [1, 5, 1]]
FLOOR = Floor(LOSSES)
NO_PLACES = no_places(2, 3)


class TestTold(unittest.TestCase):
    def test_none(self):
        self.assertEqual(looked_over(FLOOR, []), [])
        self.assertEqual(looked_over(FLOOR, ()), [])
        self.assertIs(type(looked_over(FLOOR, ())), list)

    def test_in_the_order_of_their_places_whatever_order_is_handed_in(self):
        lamps = [((0, 0), 9), ((0, 2), 1), ((1, 0), GREATEST), ((1, 2), 4)]
        for order in itertools.permutations(lamps):
            self.assertEqual(looked_over(FLOOR, list(order)), lamps)
            self.assertEqual(looked_over(FLOOR, order), lamps)

    def test_rows_come_ahead_of_columns_and_are_numbers(self):
        floor = Floor([[1] * 30] * 30)
        lamps = [((10, 2), 1), ((2, 10), 2), ((2, 9), 3), ((9, 29), 4), ((0, 29), 5)]
        told = [((0, 29), 5), ((2, 9), 3), ((2, 10), 2), ((9, 29), 4), ((10, 2), 1)]
        self.assertEqual(looked_over(floor, lamps), told)

    def test_lists_are_told_as_tuples(self):
        for lamps in (
            [[[1, 2], 7], [(0, 0), 3]],
            [([1, 2], 7), [[0, 0], 3]],
            ([[1, 2], 7], ((0, 0), 3)),
        ):
            told = looked_over(FLOOR, lamps)
            self.assertEqual(told, [((0, 0), 3), ((1, 2), 7)])
            self.assertIs(type(told), list)
            for lamp in told:
                self.assertEqual((type(lamp), type(lamp[0])), (tuple, tuple))

    def test_on_every_cell_that_is_no_wall(self):
        for place in ((0, 0), (0, 2), (1, 0), (1, 1), (1, 2)):
            for strength in (1, 2, 10 ** 59, GREATEST):
                self.assertEqual(looked_over(FLOOR, [(place, strength)]), [(place, strength)])

    def test_what_was_handed_in_stays_and_what_is_told_leads_nowhere(self):
        lamps = [[[1, 2], 7], ((0, 0), 3)]
        before = copy.deepcopy(lamps)
        told = looked_over(FLOOR, lamps)
        spoil(told)
        self.assertEqual(lamps, before)
        told = looked_over(FLOOR, lamps)
        lamps[0][0][0] = 0
        lamps[0][1] = 8
        self.assertEqual(told, [((0, 0), 3), ((1, 2), 7)])


class TestRefused(unittest.TestCase):
    def refused(self, refusal, lamps):
        for handed in (lamps, [list(lamp) for lamp in lamps], tuple(lamps)):
            with self.assertRaises(refusal):
                looked_over(FLOOR, handed)

    def test_what_is_no_place(self):
        for place in NO_PLACES:
            with self.subTest(place=place):
                self.refused(NoPlace, [(place, 5)])
                self.refused(NoPlace, [((0, 0), 5), (place, 5)])
                self.refused(NoPlace, [(place, 5), ((0, 0), 5)])

    def test_what_is_no_pair_has_no_place(self):
        for lamp in (None, 5, True, "", "ab", (), [], ((0, 0),), ((0, 0), 5, 5), (0, 0), {}):
            with self.subTest(lamp=lamp), self.assertRaises(NoPlace):
                looked_over(FLOOR, [lamp])

    def test_what_is_no_strength(self):
        for strength in NO_STRENGTHS:
            with self.subTest(strength=strength):
                self.refused(NoStrength, [((0, 0), strength)])
                self.refused(NoStrength, [((0, 2), 5), ((0, 0), strength)])

    def test_on_a_wall(self):
        self.refused(Walled, [((0, 1), 5)])
        self.refused(Walled, [((0, 0), 5), ((0, 1), 1)])

    def test_two_at_a_place(self):
        self.refused(Taken, [((1, 1), 5), ((1, 1), 5)])
        self.refused(Taken, [((1, 1), 5), ((0, 0), 2), ((1, 1), 7)])
        with self.assertRaises(Taken):
            looked_over(FLOOR, [((1, 1), 5), [[1, 1], 6]])

    def test_no_place_ahead_of_no_strength(self):
        for place in NO_PLACES:
            for strength in (0, True, None, "5", 10 ** 60):
                self.refused(NoPlace, [(place, strength)])

    def test_no_strength_ahead_of_walled_and_of_taken(self):
        for strength in NO_STRENGTHS:
            self.refused(NoStrength, [((0, 1), strength)])
            self.refused(NoStrength, [((0, 0), 5), ((0, 0), strength)])

    def test_the_first_refused_lamp_of_the_list_tells(self):
        faults = [
            (NoPlace, ((2, 0), 5)), (NoStrength, ((1, 2), 0)), (Walled, ((0, 1), 5)), (Taken, ((0, 0), 6)),
        ]
        for order in itertools.permutations(faults):
            lamps = [((0, 0), 5)] + [lamp for refusal, lamp in order]
            self.refused(order[0][0], lamps)

    def test_what_was_handed_in_stays(self):
        lamps = [[[1, 2], 7], [[1, 2], 7]]
        with self.assertRaises(Taken):
            looked_over(FLOOR, lamps)
        self.assertEqual(lamps, [[[1, 2], 7], [[1, 2], 7]])


if __name__ == "__main__":
    unittest.main()
