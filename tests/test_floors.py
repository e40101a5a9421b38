"""Floors: how they are made and refused, what they tell, places and the cells beside them."""

import copy
import itertools
import unittest

from glowcells.errors import NoFloor, NoLoss, NoPlace
from glowcells.floors import Floor

GREATEST = 10 ** 60 - 1
NO_LOSSES = [
    -1, -2, -GREATEST, 10 ** 60, 10 ** 60 + 1, 10 ** 5000, -(10 ** 5000),
    True, False, None, "", "1", "#", ".", [], [1], (1,), {}, 1.0, 2.5,
]


def places_of(high, wide):
    return [(row, column) for row in range(high) for column in range(wide)]


def numbered(high, wide):
    return [[row * wide + column for column in range(wide)] for row in range(high)]


def beside_by_hand(rows, place):
    found = []
    for step in ((-1, 0), (0, -1), (0, 1), (1, 0)):
        row, column = place[0] + step[0], place[1] + step[1]
        if row in range(len(rows)) and column in range(len(rows[0])) and rows[row][column] > 0:
            found.append((row, column))
    return found


class TestMade(unittest.TestCase):
    def check(self, floor, rows):
        self.assertEqual(floor.high(), len(rows))
        self.assertEqual(floor.wide(), len(rows[0]))
        self.assertEqual(floor.rows(), [list(row) for row in rows])
        self.assertEqual([type(row) for row in [floor.rows()] + floor.rows()], [list] * (len(rows) + 1))
        for row, column in places_of(len(rows), len(rows[0])):
            self.assertEqual(floor.loss((row, column)), rows[row][column])
            self.assertEqual(floor.loss([row, column]), rows[row][column])

    def test_of_lists_and_of_tuples(self):
        rows = [[0, 1, 2], [GREATEST, 0, 7]]
        self.check(Floor(rows), rows)
        self.check(Floor(tuple(tuple(row) for row in rows)), rows)
        self.check(Floor([tuple(row) for row in rows]), rows)
        self.check(Floor(tuple(rows)), rows)
        self.check(Floor([rows[0], tuple(rows[1])]), rows)

    def test_of_every_size(self):
        for high, wide in itertools.product((1, 2, 5, 29, 30), repeat=2):
            with self.subTest(high=high, wide=wide):
                self.check(Floor(numbered(high, wide)), numbered(high, wide))

    def test_of_one_cell(self):
        for loss in (0, 1, 2, 3, 10 ** 59, GREATEST):
            with self.subTest(loss):
                self.check(Floor([[loss]]), [[loss]])
                self.check(Floor(((loss,),)), [[loss]])

    def test_of_walls_alone_and_of_sixty_figures_alone(self):
        for loss in (0, 1, GREATEST):
            self.check(Floor([[loss] * 30] * 30), [[loss] * 30] * 30)

    def test_a_row_handed_in_several_times_is_several_rows(self):
        row = [1, 1]
        floor = Floor([row, row]).with_loss((0, 0), 0)
        self.assertEqual(floor.rows(), [[0, 1], [1, 1]])


class TestNothingHeldOnTo(unittest.TestCase):
    def test_rows_handed_in_are_not_changed(self):
        rows = [[0, 1], (2, 3)]
        floor = Floor(rows)
        floor.with_loss((0, 0), 5)
        floor.beside([1, 1])
        floor.rows()[0][0] = 9
        self.assertEqual(rows, [[0, 1], (2, 3)])

    def test_rows_emptied_afterwards(self):
        rows = [[0, 1], [2, 3]]
        floor = Floor(rows)
        rows[0][0] = 8
        rows[1].clear()
        rows.clear()
        self.assertEqual(floor.rows(), [[0, 1], [2, 3]])
        self.assertEqual((floor.high(), floor.wide(), floor.loss((0, 0))), (2, 2, 0))

    def test_rows_told_are_spoilt(self):
        floor = Floor([[0, 1], [2, 3]])
        told = floor.rows()
        later = floor.rows()
        told[0][0] = 7
        told[1].clear()
        told.append([4])
        self.assertEqual(later, [[0, 1], [2, 3]])
        self.assertEqual(floor.rows(), [[0, 1], [2, 3]])
        self.assertEqual((floor.high(), floor.wide(), floor.loss((0, 0))), (2, 2, 0))

    def test_places_told_are_spoilt(self):
        floor = Floor([[1, 1], [1, 1]])
        told = floor.beside((0, 0))
        told.clear()
        self.assertEqual(floor.beside((0, 0)), [(0, 1), (1, 0)])

    def test_places_handed_in_are_not_changed(self):
        floor = Floor([[1, 1], [1, 1]])
        place = [1, 0]
        floor.loss(place)
        floor.beside(place)
        other = floor.with_loss(place, 4)
        self.assertEqual(place, [1, 0])
        place[1] = 1
        self.assertEqual(other.rows(), [[1, 1], [4, 1]])

    def test_two_floors_have_nothing_to_do_with_one_another(self):
        rows = [[1, 2]]
        first, second = Floor(rows), Floor(rows)
        first.rows()[0][0] = 5
        Floor([[3]])
        self.assertEqual((first.rows(), second.rows()), ([[1, 2]], [[1, 2]]))

    def test_the_same_is_told_again(self):
        floor = Floor(numbered(3, 4))
        for place in places_of(3, 4):
            self.assertEqual(floor.beside(place), floor.beside(place))
            self.assertEqual(floor.loss(place), floor.loss(place))


class TestRefused(unittest.TestCase):
    def refused(self, refusal, rows):
        before = copy.deepcopy(rows)
        with self.assertRaises(refusal):
            Floor(rows)
        self.assertEqual(rows, before)

    def test_no_rows_or_rows_without_cells(self):
        for rows in ([], (), [[]], [()], ((),), [[], []], [[]] * 30):
            with self.subTest(rows=rows):
                self.refused(NoFloor, rows)

    def test_too_many_rows(self):
        for many in (31, 32, 60):
            self.refused(NoFloor, [[1]] * many)
            self.refused(NoFloor, [[1] * 30] * many)
            self.refused(NoFloor, tuple((1, 1) for number in range(many)))

    def test_too_many_cells_in_a_row(self):
        for many in (31, 32, 60):
            self.refused(NoFloor, [[1] * many])
            self.refused(NoFloor, [[1] * many] * 30)
        self.refused(NoFloor, [[1] * 30, [1] * 31])
        self.refused(NoFloor, [[1] * 31, [1] * 30])

    def test_rows_of_unlike_lengths(self):
        for rows in (
            [[1, 1], [1]], [[1], [1, 1]], [[1, 1], []], [[], [1]],
            [[1, 1], [1, 1], [1, 1, 1]], [[1, 1], [1, 1], [1]], [(1, 1), [1], (1, 1)],
        ):
            with self.subTest(rows=rows):
                self.refused(NoFloor, rows)
        self.refused(NoFloor, [[1] * 30] * 29 + [[1] * 29])

    def test_no_floor_ahead_of_no_loss(self):
        for bad in NO_LOSSES:
            for rows in (
                [[bad], [1, 1]], [[1, bad], [1]], [[1], [bad, 1]], [[bad], []],
                [[bad] * 31], [[bad]] * 31, [[1]] * 30 + [[bad]], [[1] * 30 + [bad]],
                [[bad, 1], [1, 1], [1]],
            ):
                self.refused(NoFloor, rows)

    def test_what_is_no_loss_at_any_place(self):
        for bad in NO_LOSSES:
            for row, column in places_of(3, 4):
                rows = [[1] * 4 for number in range(3)]
                rows[row][column] = bad
                self.refused(NoLoss, rows)
                self.refused(NoLoss, tuple(tuple(cells) for cells in rows))

    def test_what_is_no_loss_on_the_smallest_and_the_greatest_floor(self):
        for bad in NO_LOSSES:
            self.refused(NoLoss, [[bad]])
            for row, column in ((0, 0), (0, 29), (29, 0), (29, 29)):
                rows = [[1] * 30 for number in range(30)]
                rows[row][column] = bad
                self.refused(NoLoss, rows)


class TestBeside(unittest.TestCase):
    def test_in_the_middle_above_left_right_below(self):
        floor = Floor([[1, 2, 1], [3, 1, 4], [1, 5, 1]])
        self.assertEqual(floor.beside((1, 1)), [(0, 1), (1, 0), (1, 2), (2, 1)])

    def test_at_corners_and_edges(self):
        floor = Floor([[1] * 4 for number in range(3)])
        told = {
            (0, 0): [(0, 1), (1, 0)],
            (0, 3): [(0, 2), (1, 3)],
            (2, 0): [(1, 0), (2, 1)],
            (2, 3): [(1, 3), (2, 2)],
            (0, 1): [(0, 0), (0, 2), (1, 1)],
            (2, 2): [(1, 2), (2, 1), (2, 3)],
            (1, 0): [(0, 0), (1, 1), (2, 0)],
            (1, 3): [(0, 3), (1, 2), (2, 3)],
        }
        for place in told:
            with self.subTest(place=place):
                self.assertEqual(floor.beside(place), told[place])

    def test_of_a_wall_and_beside_walls(self):
        floor = Floor([[1, 0, 1], [1, 0, 2], [0, 1, 0]])
        self.assertEqual(floor.beside((1, 1)), [(1, 0), (1, 2), (2, 1)])
        self.assertEqual(floor.beside((0, 1)), [(0, 0), (0, 2)])
        self.assertEqual(floor.beside((2, 1)), [])
        self.assertEqual(floor.beside((1, 2)), [(0, 2)])

    def test_of_the_only_cell(self):
        for loss in (0, 1, 2):
            self.assertEqual(Floor([[loss]]).beside((0, 0)), [])

    def test_on_every_small_floor(self):
        for cells in itertools.product((0, 1), repeat=9):
            rows = [list(cells[0:3]), list(cells[3:6]), list(cells[6:9])]
            floor = Floor(rows)
            for place in places_of(3, 3):
                self.assertEqual(floor.beside(place), beside_by_hand(rows, place))

    def test_on_the_greatest_floor(self):
        rows = [[(row * 7 + column * 5) % 4 for column in range(30)] for row in range(30)]
        floor = Floor(rows)
        for place in places_of(30, 30):
            self.assertEqual(floor.beside(place), beside_by_hand(rows, place))

    def test_places_handed_in_as_lists_and_told_as_tuples(self):
        floor = Floor([[1, 1, 1], [1, 1, 1]])
        told = floor.beside([0, 1])
        self.assertEqual(told, floor.beside((0, 1)))
        self.assertIs(type(told), list)
        self.assertEqual([type(place) for place in told], [tuple] * 3)


class TestNoPlace(unittest.TestCase):
    NO_PLACES = [
        (-1, 0), (0, -1), (-1, -1), (2, 0), (0, 3), (2, 3), (-2, -3), (10 ** 70, 0), (0, -(10 ** 70)),
        [-1, 0], [2, 0], [0, 3],
        (), (0,), (0, 0, 0), [], [0], [1, 1, 1], [0, 0, 0, 0],
        (True, 0), (0, True), (False, False), [True, 1], (0, False),
        (None, 0), (0, None), ("0", 0), (0, "0"), ("0", "0"), (0.0, 0), (0, 1.0), ([0], 0), (0, (0,)),
        None, True, False, 0, 1, -1, 0.5, "", "0", "00", "01", "(0, 0)",
        {}, {0: 0, 1: 1}, {0: 1}, range(2), {0, 1}, object(),
    ]

    def test_by_loss_and_beside(self):
        floor = Floor([[1, 0, 2], [1, 1, 1]])
        for place in self.NO_PLACES:
            with self.subTest(place=place):
                self.assertRaises(NoPlace, floor.loss, place)
                self.assertRaises(NoPlace, floor.beside, place)

    def test_by_with_loss_ahead_of_no_loss(self):
        floor = Floor([[1, 0, 2], [1, 1, 1]])
        for place in self.NO_PLACES:
            for loss in (0, 1, 2, GREATEST, -1, 10 ** 60, None, True, "2"):
                with self.subTest(place=place, loss=loss):
                    self.assertRaises(NoPlace, floor.with_loss, place, loss)
        self.assertEqual(floor.rows(), [[1, 0, 2], [1, 1, 1]])

    def test_one_step_beyond_each_side(self):
        for high, wide in ((1, 1), (1, 30), (30, 1), (30, 30), (4, 7)):
            floor = Floor([[1] * wide] * high)
            for row in range(high):
                self.assertRaises(NoPlace, floor.loss, (row, -1))
                self.assertRaises(NoPlace, floor.loss, (row, wide))
            for column in range(wide):
                self.assertRaises(NoPlace, floor.loss, (-1, column))
                self.assertRaises(NoPlace, floor.loss, (high, column))

    def test_rows_and_columns_are_not_mixed_up(self):
        floor = Floor([[1, 2, 3]])
        self.assertEqual(floor.loss((0, 2)), 3)
        self.assertRaises(NoPlace, floor.loss, (2, 0))
        self.assertRaises(NoPlace, floor.beside, (1, 0))


class TestWithLoss(unittest.TestCase):
    def test_another_floor_and_the_first_as_it_was(self):
        rows = numbered(3, 4)
        floor = Floor(rows)
        for place in places_of(3, 4):
            for loss in (0, 1, 2, 10 ** 59, GREATEST):
                for handed in (place, list(place)):
                    other = floor.with_loss(handed, loss)
                    asked = copy.deepcopy(rows)
                    asked[place[0]][place[1]] = loss
                    self.assertIsInstance(other, Floor)
                    self.assertEqual(other.rows(), asked)
                    self.assertEqual(other.loss(place), loss)
                    self.assertEqual(floor.rows(), rows)

    def test_the_loss_that_it_had_tells_another_floor_too(self):
        floor = Floor([[1, 2]])
        other = floor.with_loss((0, 1), 2)
        self.assertIsNot(other, floor)
        self.assertEqual(other.rows(), [[1, 2]])

    def test_one_behind_another(self):
        first = Floor([[1, 1], [1, 1]])
        second = first.with_loss((0, 1), 0)
        third = second.with_loss((1, 0), 5)
        self.assertEqual(first.rows(), [[1, 1], [1, 1]])
        self.assertEqual(second.rows(), [[1, 0], [1, 1]])
        self.assertEqual(third.rows(), [[1, 0], [5, 1]])
        self.assertEqual(first.beside((0, 0)), [(0, 1), (1, 0)])
        self.assertEqual(third.beside((0, 0)), [(1, 0)])

    def test_what_is_no_loss(self):
        floor = Floor([[1, 0, 2], [1, 1, 1]])
        for bad in NO_LOSSES:
            for place in places_of(2, 3):
                self.assertRaises(NoLoss, floor.with_loss, place, bad)
                self.assertRaises(NoLoss, floor.with_loss, list(place), bad)
        self.assertEqual(floor.rows(), [[1, 0, 2], [1, 1, 1]])


if __name__ == "__main__":
    unittest.main()
