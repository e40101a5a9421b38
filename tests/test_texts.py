"""Floors as texts: written, read back, and refused at the first row that is not written so."""

import itertools
import unittest

from glowcells.errors import NoText
from glowcells.floors import Floor
from glowcells.texts import read_floor, write_floor

SIXTY = int("9" * 60)
NO_WORDS = [
    "0", "1", "00", "01", "02", "007", "##", "..", "#.", ".#", "a", "A", "x2", "2x", "-2", "-1", "-0", "+3",
    "2_0", "_2", "2_", "2.", ".2", "2.0", "2e3", "0x2", "1" * 61, "2" + "0" * 60, "9" * 5000, "~", "!", ",", "2,",
    "2#", "#2", "\t", "\t2", "2\t", "\r", ".\r", "(2)", "None", "True",
]


class TestWritten(unittest.TestCase):
    def test_by_hand(self):
        for rows, text in (
            ([[0]], "#"),
            ([[1]], "."),
            ([[2]], "2"),
            ([[0, 1, 2]], "# . 2"),
            ([[0], [1], [2]], "#\n.\n2"),
            ([[1, 10, 0], [99, 1, 100]], ". 10 #\n99 . 100"),
            ([[SIXTY, 10 ** 59]], "9" * 60 + " 1" + "0" * 59),
        ):
            with self.subTest(text=text):
                self.assertEqual(write_floor(Floor(rows)), text)
                self.assertEqual(read_floor(text).rows(), rows)

    def test_the_floor_stays_as_it_was(self):
        floor = Floor([[0, 1], [2, 3]])
        self.assertEqual(write_floor(floor), write_floor(floor))
        self.assertEqual(floor.rows(), [[0, 1], [2, 3]])

    def test_of_the_greatest_floor(self):
        rows = [[(row + column) % 3 for column in range(30)] for row in range(30)]
        text = write_floor(Floor(rows))
        self.assertEqual(len(text), 30 * 59 + 29)
        self.assertEqual(read_floor(text).rows(), rows)


class TestReadBack(unittest.TestCase):
    def check(self, rows):
        text = write_floor(Floor(rows))
        self.assertIs(type(text), str)
        floor = read_floor(text)
        self.assertIsInstance(floor, Floor)
        self.assertEqual(floor.rows(), rows)
        self.assertEqual(write_floor(floor), text)

    def test_every_small_floor(self):
        losses = (0, 1, 2, 10, SIXTY)
        for cells in itertools.product(losses, repeat=4):
            self.check([list(cells)])
            self.check([[cell] for cell in cells])
            self.check([list(cells[:2]), list(cells[2:])])

    def test_glass_of_every_length(self):
        for figures in range(1, 61):
            self.check([[2 * 10 ** (figures - 1), 10 ** figures - 1]])

    def test_every_size(self):
        for high, wide in itertools.product((1, 2, 3, 29, 30), repeat=2):
            self.check([[(row * 5 + column * 3) % 13 for column in range(wide)] for row in range(high)])

    def test_a_read_floor_can_be_asked(self):
        floor = read_floor("# . 12\n. . #")
        self.assertEqual((floor.high(), floor.wide(), floor.loss((0, 2))), (2, 3, 12))
        self.assertEqual(floor.beside((0, 1)), [(0, 2), (1, 1)])

    def test_two_read_floors_have_nothing_to_do_with_one_another(self):
        first, second = read_floor(". ."), read_floor(". .")
        first.rows()[0][0] = 4
        self.assertEqual(first.with_loss((0, 0), 0).rows(), [[0, 1]])
        self.assertEqual((first.rows(), second.rows()), ([[1, 1]], [[1, 1]]))


class TestRefused(unittest.TestCase):
    def refused(self, text, line):
        with self.assertRaises(NoText) as taken:
            read_floor(text)
        self.assertEqual(taken.exception.line, line)
        self.assertIs(type(taken.exception.line), int)

    def test_without_signs(self):
        self.refused("", 0)

    def test_blanks_alone(self):
        for text in (" ", "  ", "   "):
            self.refused(text, 0)

    def test_an_empty_row(self):
        self.refused("\n", 0)
        self.refused("\n.", 0)
        self.refused(".\n\n.", 1)
        self.refused(". .\n. .\n\n. .", 2)

    def test_a_line_end_at_the_end(self):
        self.refused(".\n", 1)
        self.refused(". #\n# .\n", 2)
        self.refused("\n".join(["."] * 30) + "\n", 30)

    def test_two_blanks_and_blanks_at_an_end(self):
        for row in (".  .", ". .  .", " . .", ". . ", "  . .", ". .  ", " ", " .", ". "):
            with self.subTest(row=row):
                self.refused(row, 0)
                self.refused(row + "\n. .", 0)
                self.refused(". .\n" + row, 1)
                self.refused(". .\n# 2\n" + row + "\n. .", 2)

    def test_words_that_are_no_cells(self):
        for word in NO_WORDS:
            with self.subTest(word=word[:70]):
                self.refused(word, 0)
                self.refused(". " + word, 0)
                self.refused(word + " .", 0)
                self.refused(". .\n. " + word, 1)
                self.refused("# 2\n. .\n" + word + " .\n. .", 2)

    def test_sixty_figures_are_a_word_and_sixty_one_are_none(self):
        self.assertEqual(read_floor("1" * 60).rows(), [[int("1" * 60)]])
        self.refused("1" * 61, 0)

    def test_a_row_of_more_than_thirty_cells(self):
        thirty = " ".join(["."] * 30)
        for many in (31, 32, 60):
            row = " ".join(["."] * many)
            self.refused(row, 0)
            self.refused(row + "\n" + row, 0)
            self.refused(thirty + "\n" + row, 1)
            self.refused(thirty + "\n" + thirty + "\n" + row, 2)
        self.assertEqual(read_floor(thirty).rows(), [[1] * 30])

    def test_a_row_of_another_length_than_the_first(self):
        self.refused(". .\n.", 1)
        self.refused(".\n. .", 1)
        self.refused(". .\n. .\n. . .", 2)
        self.refused(". .\n. .\n.\n. .", 2)
        self.refused(". .\n. .\n. .\n2 2 2\n.", 3)

    def test_the_thirty_first_row(self):
        for many in (31, 32, 60):
            self.refused("\n".join(["."] * many), 30)
            self.refused("\n".join([". # 2"] * many), 30)
        self.refused("\n".join(["."] * 30 + ["x"]), 30)
        self.assertEqual(read_floor("\n".join(["."] * 30)).rows(), [[1]] * 30)

    def test_the_first_of_several_rows_is_told(self):
        self.refused(". .\n. x\n. 0\n.", 1)
        self.refused(". .\n.\n. x", 1)
        self.refused("x .\n.\n" + "\n".join([". ."] * 40), 0)
        self.refused("\n".join([". ."] * 7 + [". 1"] + [". ."] * 40), 7)
        self.refused("\n".join(["."] * 29 + [". ."] + ["."] * 5), 29)
        self.refused(". . x\n. .", 0)


if __name__ == "__main__":
    unittest.main()
