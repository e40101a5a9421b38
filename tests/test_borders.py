"""Lights of two floors spread over the border between them, held against those of the joined floor."""

import copy
import random
import unittest

from glowcells.borders import over_border
from glowcells.cuts import cut, joined
from glowcells.errors import NoFloor
from glowcells.floors import Floor
from glowcells.lights import lights, off
from glowcells.spreading import raised
from tests.reckoning import (
    GREAT, GREATEST, at, drawn, drawn_floor, drawn_lamps, refused_joins, slow_lights, spoil, unlike, winding,
)


def border_starts(floor, rows, column):
    """For each row, and both ways, the light at the border less the loss of the cell beyond it."""
    starts = []
    for row in range(floor.high()):
        for here, beyond in (((row, column - 1), (row, column)), ((row, column), (row, column - 1))):
            starts.append((beyond, at(rows, here) - floor.loss(beyond)))
    return starts


class TestOverBorder(unittest.TestCase):
    def check(self, one, other):
        """Both as twos of losses and lamps."""
        pairs = [(Floor(losses), lamps) for losses, lamps in (one, other)]
        before = copy.deepcopy((one, other))
        told = over_border(pairs[0], pairs[1])
        self.assertEqual((one, other), before)
        self.assertEqual([pair[0].rows() for pair in pairs], [[list(row) for row in part[0]] for part in before])
        self.assertEqual([type(part) for part in told], [list, list])
        self.assertEqual((type(told), [type(row) for row in told[0]]), (tuple, [list] * len(one[0])))
        self.assertEqual([type(place) for place in told[1]], [tuple] * len(told[1]))
        whole, lamps = joined(pairs[0], pairs[1])
        self.assertEqual(told[0], slow_lights(whole.rows(), lamps))
        self.assertEqual(told[0], lights(whole, lamps))
        self.assertEqual(off(whole, lamps, told[0]), [])
        aside = [left + right for left, right in zip(slow_lights(*one), slow_lights(*other))]
        self.assertEqual(told[1], unlike(aside, told[0]))
        self.assertEqual(raised(whole, aside, border_starts(whole, aside, len(one[0][0]))), told)
        return told

    def test_without_lamps(self):
        self.assertEqual(self.check(([[1]], []), ([[1]], [])), ([[0, 0]], []))
        self.assertEqual(self.check(([[1, 0], [2, 1]], []), ([[0], [1]], [])), ([[0, 0, 0], [0, 0, 0]], []))

    def test_light_goes_over_from_either_side(self):
        told = self.check(([[1, 1]], [((0, 0), 5)]), ([[1, 1]], []))
        self.assertEqual(told, ([[5, 4, 3, 2]], [(0, 2), (0, 3)]))
        told = self.check(([[1, 1]], []), ([[1, 1]], [((0, 1), 5)]))
        self.assertEqual(told, ([[2, 3, 4, 5]], [(0, 0), (0, 1)]))
        told = self.check(([[1, 1]], [((0, 1), 2)]), ([[1, 1]], [((0, 0), 9)]))
        self.assertEqual(told, ([[7, 8, 9, 8]], [(0, 0), (0, 1)]))
        told = self.check(([[1, 1]], [((0, 1), 9)]), ([[1, 1]], [((0, 0), 8)]))
        self.assertEqual(told, ([[8, 9, 8, 7]], []))

    def test_light_that_does_not_come_over(self):
        self.assertEqual(self.check(([[1, 1]], [((0, 0), 2)]), ([[1]], [])), ([[2, 1, 0]], []))
        self.assertEqual(self.check(([[1]], [((0, 0), 5)]), ([[5]], [])), ([[5, 0]], []))
        self.assertEqual(self.check(([[1]], [((0, 0), 5)]), ([[4]], [])), ([[5, 1]], [(0, 1)]))
        # The loss of the cell to which light goes counts, not of the one from which it comes.
        self.assertEqual(self.check(([[9]], [((0, 0), 5)]), ([[1]], [])), ([[5, 4]], [(0, 1)]))
        self.assertEqual(self.check(([[4]], []), ([[9]], [((0, 0), 5)])), ([[1, 5]], [(0, 0)]))

    def test_walls_at_the_border(self):
        self.assertEqual(self.check(([[1, 0]], [((0, 0), 9)]), ([[1]], [])), ([[9, 0, 0]], []))
        self.assertEqual(self.check(([[1]], [((0, 0), 9)]), ([[0, 1]], [])), ([[9, 0, 0]], []))
        self.assertEqual(self.check(([[1, 0]], [((0, 0), 9)]), ([[0, 1]], [((0, 1), 4)])), ([[9, 0, 0, 4]], []))
        told = self.check(([[1, 0], [1, 1]], [((0, 0), 9)]), ([[1, 1], [0, 1]], []))
        self.assertEqual(told, ([[9, 0, 0, 0], [8, 7, 0, 0]], []))
        told = self.check(([[1, 0], [1, 1]], [((0, 0), 9)]), ([[1, 1], [1, 0]], []))
        self.assertEqual(told, ([[9, 0, 5, 4], [8, 7, 6, 0]], [(0, 2), (0, 3), (1, 2)]))

    def test_light_that_goes_over_and_comes_back_in_another_row(self):
        told = self.check(([[1], [0], [1]], [((0, 0), 9)]), ([[1], [1], [1]], []))
        self.assertEqual(told, ([[9, 8], [0, 7], [5, 6]], [(0, 1), (1, 1), (2, 0), (2, 1)]))
        told = self.check(([[1], [1], [1]], []), ([[1], [0], [1]], [((2, 0), 9)]))
        self.assertEqual(told, ([[6, 5], [7, 0], [8, 9]], [(0, 0), (0, 1), (1, 0), (2, 0)]))

    def test_there_and_back_many_times(self):
        # Every second cell at the border leads on, on the other side each time.
        one = [[1], [0], [1], [1], [1], [0]] * 5
        other = [[1], [1], [1], [0], [1], [1]] * 5
        told = self.check((one, [((0, 0), 100)]), (other, []))
        self.assertGreater(told[0][29][1], 0)
        losses = winding()
        for column in (1, 15, 29):
            pairs = cut(Floor(losses), [((0, 0), 500)], column)
            self.check(*[(floor.rows(), lamps) for floor, lamps in pairs])

    def test_glass_of_sixty_figures(self):
        told = self.check(([[1]], [((0, 0), GREATEST)]), ([[GREAT, 1]], []))
        self.assertEqual(told, ([[GREATEST, GREATEST - GREAT, GREATEST - GREAT - 1]], [(0, 1), (0, 2)]))
        self.assertEqual(self.check(([[1]], [((0, 0), GREATEST)]), ([[GREATEST]], [])), ([[GREATEST, 0]], []))
        self.assertEqual(
            self.check(([[GREATEST - 1]], []), ([[1]], [((0, 0), GREATEST)])), ([[1, GREATEST]], [(0, 0)]),
        )

    def test_drawn_ones(self):
        for seed in range(1100, 1115):
            for draw, losses, lamps in drawn(seed, ((1, 1), (1, 4), (4, 1), (3, 3), (6, 4))):
                other = drawn_floor(draw, len(losses), draw.choice([1, 2, 5]))
                with self.subTest(losses=losses, lamps=lamps, other=other):
                    self.check((losses, lamps), (other, drawn_lamps(draw, other, draw.choice([0, 1, 3]))))

    def test_thirty_rows_of_thirty_cells(self):
        draw = random.Random(1120)
        for wide in (1, 14, 29):
            one, other = drawn_floor(draw, 30, wide), drawn_floor(draw, 30, 30 - wide)
            self.check((one, drawn_lamps(draw, one, 3)), (other, drawn_lamps(draw, other, 3)))

    def test_a_cut_floor_is_lit_as_it_was_when_it_is_joined(self):
        for draw, losses, lamps in drawn(1121, ((3, 4), (5, 5))):
            for column in range(1, len(losses[0])):
                one, other = cut(Floor(losses), lamps, column)
                self.assertEqual(over_border(one, other)[0], lights(Floor(losses), lamps))

    def test_lists_and_tuples_handed_in(self):
        asked = ([[5, 4, 3]], [(0, 2)])
        for one in ((Floor([[1, 1]]), [((0, 0), 5)]), (Floor([(1, 1)]), ([[0, 0], 5],)), [Floor([[1, 1]]), [[(0, 0), 5]]]):
            for other in ((Floor([[1]]), []), (Floor(((1,),)), ()), [Floor([[1]]), []]):
                self.assertEqual(over_border(one, other), asked)

    def test_nothing_leads_back(self):
        one, other = (Floor([[1, 1]]), [[[0, 0], 5]]), (Floor([[1]]), [])
        told = over_border(one, other)
        spoil(told)
        self.assertEqual((one[1], other[1]), ([[[0, 0], 5]], []))
        self.assertEqual(over_border(one, other), ([[5, 4, 3]], [(0, 2)]))

    def test_refused_as_joined_does(self):
        for kind, one, other in refused_joins():
            with self.subTest(one=(one[0].rows(), one[1]), other=(other[0].rows(), other[1])):
                with self.assertRaises(kind) as taken:
                    over_border(one, other)
                self.assertIs(type(taken.exception), kind)

    def test_thirty_cells_in_a_row_just_go(self):
        one = (Floor([[1] * 15]), [((0, 14), 30)])
        self.assertEqual(at(over_border(one, one)[0], (0, 29)), 30)
        with self.assertRaises(NoFloor):
            over_border(one, (Floor([[1] * 16]), []))


if __name__ == "__main__":
    unittest.main()
