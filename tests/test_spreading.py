"""Rows of numbers raised by starts, held against a slow way of raising and against the document's words."""

import copy
import itertools
import unittest

from glowcells.errors import NoLights, NoPlace
from glowcells.floors import Floor
from glowcells.lights import lights
from glowcells.spreading import raised
from tests.reckoning import (
    GREAT, GREATEST, NO_ROWS, at, beside, drawn, lacking, no_places, places_of, slow_lights, slow_raised, spoil,
    unlike, winding,
)


def noughts(losses):
    return [[0] * len(row) for row in losses]


def drawn_rows(draw, losses):
    numbers = draw.choice([[0, 1, 2], [0, 5, 9, 20], list(range(12)), [0, 0, 0, 30], [0, 3, GREATEST, GREAT]])
    return [[draw.choice(numbers) if loss > 0 else 0 for loss in row] for row in losses]


def drawn_starts(draw, losses):
    numbers = [-GREATEST, -1, 0, 1, 2, 6, 15, 40, GREATEST]
    places = places_of(losses)
    return [(draw.choice(places), draw.choice(numbers)) for many in range(draw.choice([0, 1, 2, 4]))]


class TestRaised(unittest.TestCase):
    def check(self, losses, rows, starts):
        floor = Floor(losses)
        before = copy.deepcopy((rows, starts))
        told = raised(floor, rows, starts)
        self.assertEqual((rows, starts), before)
        self.assertEqual((type(told), len(told)), (tuple, 2))
        self.assertEqual(told[0], slow_raised(losses, rows, starts))
        self.assertEqual([type(row) for row in [told[0]] + told[0]], [list] * (len(losses) + 1))
        self.assertEqual(told[1], unlike(rows, told[0]))
        self.assertEqual([type(place) for place in [told[1]] + told[1]], [list] + [tuple] * len(told[1]))
        self.assertEqual(lacking(losses, told[0]), [])
        self.assertEqual(raised(floor, told[0], starts), (told[0], []))
        self.caused(losses, told, starts)
        return told

    def caused(self, losses, told, starts):
        given = [(tuple(place), number) for place, number in starts]
        for place in told[1]:
            from_beside = [at(told[0], near) - at(losses, place) for near in beside(losses, place)]
            own = [number for where, number in given if where == place]
            self.assertIn(at(told[0], place), from_beside + own)

    def test_by_none(self):
        self.assertEqual(raised(Floor([[1, 1]]), [[0, 0]], []), ([[0, 0]], []))
        self.assertEqual(raised(Floor([[1, 1]]), [[4, 3]], ()), ([[4, 3]], []))

    def test_cells_that_lack_ahead_are_raised_too(self):
        self.assertEqual(raised(Floor([[1, 1, 1]]), [[4, 0, 0]], []), ([[4, 3, 2]], [(0, 1), (0, 2)]))
        self.assertEqual(raised(Floor([[1, 2, 1]]), [[0, 0, 9]], []), ([[6, 7, 9]], [(0, 0), (0, 1)]))
        self.assertEqual(
            raised(Floor([[1, 1, 0, 1, 1]]), [[5, 0, 0, 0, 0]], [((0, 4), 2)]),
            ([[5, 4, 0, 1, 2]], [(0, 1), (0, 3), (0, 4)]),
        )

    def test_by_one(self):
        floor = Floor([[1, 3, 1], [0, 1, 1]])
        self.assertEqual(
            raised(floor, [[0] * 3, [0] * 3], [((0, 0), 6)]), ([[6, 3, 2], [0, 2, 1]], [
                (0, 0), (0, 1), (0, 2), (1, 1), (1, 2),
            ]),
        )
        self.assertEqual(raised(floor, [[9, 6, 5], [0, 5, 4]], [((0, 0), 9)]), ([[9, 6, 5], [0, 5, 4]], []))
        self.assertEqual(raised(floor, [[9, 6, 5], [0, 5, 4]], [((1, 2), 5)]), ([[9, 6, 5], [0, 5, 5]], [(1, 2)]))

    def test_numbers_that_are_not_less_stay(self):
        floor = Floor([[1, 1, 1]])
        self.assertEqual(raised(floor, [[0, 8, 7]], [((0, 0), 3)]), ([[7, 8, 7]], [(0, 0)]))
        self.assertEqual(raised(floor, [[7, 8, 7]], [((0, 1), 3), ((0, 0), 7)]), ([[7, 8, 7]], []))

    def test_two_starts_at_one_place(self):
        for starts in ([((0, 0), 3), ((0, 0), 5)], [((0, 0), 5), ((0, 0), 3)], [((0, 0), 5), ((0, 0), 5)]):
            self.assertEqual(raised(Floor([[1, 1]]), [[0, 0]], starts), ([[5, 4]], [(0, 0), (0, 1)]))

    def test_starts_on_walls_count_for_nothing(self):
        floor = Floor([[1, 0, 1]])
        self.assertEqual(raised(floor, [[0, 0, 0]], [((0, 1), 9)]), ([[0, 0, 0]], []))
        self.assertEqual(raised(floor, [[0, 0, 0]], [((0, 1), 9), ((0, 0), 2)]), ([[2, 0, 0]], [(0, 0)]))
        self.assertEqual(raised(Floor([[0]]), [[0]], [((0, 0), GREATEST)]), ([[0]], []))

    def test_numbers_of_nought_and_below(self):
        floor = Floor([[1, 1, 2]])
        for number in (0, -1, -5, -GREATEST):
            self.assertEqual(raised(floor, [[0, 0, 0]], [((0, 1), number)]), ([[0, 0, 0]], []))
            self.assertEqual(raised(floor, [[2, 3, 1]], [((0, 1), number)]), ([[2, 3, 1]], []))

    def test_nothing_goes_below_nought(self):
        self.assertEqual(raised(Floor([[1, 5, 1]]), [[0, 0, 0]], [((0, 0), 3)]), ([[3, 0, 0]], [(0, 0)]))
        self.assertEqual(raised(Floor([[1, 3, 1]]), [[0, 0, 0]], [((0, 0), 3)]), ([[3, 0, 0]], [(0, 0)]))
        self.assertEqual(raised(Floor([[1, 2, 1]]), [[0, 0, 0]], [((0, 0), 3)]), ([[3, 1, 0]], [(0, 0), (0, 1)]))

    def test_drawn(self):
        for seed in range(300, 325):
            for draw, losses, lamps in drawn(seed):
                for rows in (noughts(losses), drawn_rows(draw, losses), slow_lights(losses, lamps)):
                    starts = drawn_starts(draw, losses)
                    with self.subTest(losses=losses, rows=rows, starts=starts):
                        self.check(losses, rows, starts)

    def test_the_greatest_floors(self):
        for draw, losses, lamps in drawn(326, ((30, 30),)):
            self.check(losses, drawn_rows(draw, losses), drawn_starts(draw, losses))

    def test_long_ways(self):
        losses = winding()
        told = self.check(losses, noughts(losses), [((29, 29), 465)])
        self.assertEqual((told[0][0][0], len(told[1])), (1, 465))
        told = self.check(losses, told[0], [((0, 0), 300)])
        self.assertEqual(at(told[0], (29, 29)), 465)
        # A cell that lacks ahead, far from the only start.
        rows = noughts(losses)
        rows[0][0] = 400
        self.check(winding(2), rows, [((28, 4), 9)])

    def test_rows_of_noughts_raised_by_the_lamps_are_the_lights(self):
        for seed in range(330, 340):
            for draw, losses, lamps in drawn(seed):
                told = raised(Floor(losses), noughts(losses), lamps)
                self.assertEqual(told[0], lights(Floor(losses), lamps))
                self.assertEqual(told[0], slow_lights(losses, lamps))

    def test_the_order_of_starts_changes_nothing(self):
        floor = Floor([[1, 2, 1, 1], [1, 0, 3, 1], [1, 1, 1, 1]])
        rows = [[0, 0, 4, 0], [2, 0, 0, 0], [0, 0, 0, 0]]
        starts = [((0, 0), 7), ((2, 3), 5), ((0, 0), 6), ((1, 1), 90)]
        told = raised(floor, rows, starts)
        for order in itertools.permutations(starts):
            self.assertEqual(raised(floor, rows, list(order)), told)

    def test_lists_and_tuples_handed_in(self):
        floor = Floor([[1, 1, 1]])
        for rows in ([[0, 0, 0]], ((0, 0, 0),), [(0, 0, 0)]):
            for starts in ([((0, 1), 2)], (((0, 1), 2),), [[[0, 1], 2]], [[(0, 1), 2]], ([[0, 1], 2],)):
                told = self.check([[1, 1, 1]], rows, starts)
                self.assertEqual(told, ([[1, 2, 1]], [(0, 0), (0, 1), (0, 2)]))
                self.assertEqual(raised(floor, rows, starts), told)

    def test_nothing_told_leads_back(self):
        floor = Floor([[1, 1, 1]])
        rows = [[4, 3, 2]]
        spoil(raised(floor, rows, []))
        self.assertEqual(rows, [[4, 3, 2]])
        spoil(raised(floor, rows, [((0, 1), 9)]))
        self.assertEqual((rows, floor.rows()), ([[4, 3, 2]], [[1, 1, 1]]))
        self.assertEqual(raised(floor, rows, [((0, 1), 9)]), ([[8, 9, 8]], [(0, 0), (0, 1), (0, 2)]))


class TestRefused(unittest.TestCase):
    FLOOR = Floor([[1, 0], [1, 1]])

    def test_rows_that_are_none_ahead_of_no_place(self):
        for rows in NO_ROWS:
            for starts in ([], [((0, 0), 5)], [((2, 0), 5)], [(None, 5)]):
                with self.subTest(rows=rows, starts=starts), self.assertRaises(NoLights):
                    raised(self.FLOOR, rows, starts)

    def test_what_is_no_place(self):
        rows = [[0, 0], [0, 0]]
        for place in no_places(2, 2):
            for starts in ([(place, 5)], [[place, 0]], [((0, 0), 5), (place, 5)], [(place, -1), ((0, 1), 5)]):
                with self.subTest(starts=starts), self.assertRaises(NoPlace):
                    raised(self.FLOOR, rows, starts)
        self.assertEqual(rows, [[0, 0], [0, 0]])

    def test_what_is_no_pair_has_no_place(self):
        for start in (None, 5, True, "", "ab", (), [], ((0, 0),), ((0, 0), 5, 5), (0, 0), {}):
            with self.subTest(start=start), self.assertRaises(NoPlace):
                raised(self.FLOOR, [[0, 0], [0, 0]], [start])


if __name__ == "__main__":
    unittest.main()
