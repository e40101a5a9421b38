"""Halls as texts: written, read back, and refused at the first row that is not written so."""

import itertools
import random
import unittest

from glowcells.errors import NoText
from glowcells.floors import Floor
from glowcells.halls import Hall
from glowcells.saved import read_hall, write_hall
from glowcells.texts import write_floor
from tests.reckoning import GREAT, GREATEST, drawn_floor, drawn_lamps, slow_lights, spoil, state

COLOURS = ["red", "b", "green", "z", "aa", "q", "abcdefgh", "m"]
FLOOR = ". # 7\n. . ."
LOSSES = [[1, 0, 7], [1, 1, 1]]
NO_NAMES = [
    "abcdefghi", "abcdefghijklmnop", "A", "Red", "reD", "RED", "red1", "1red", "r d", "red blue", "red ", " red",
    "re-d", "re_d", "red,", "red.", "#red", "~", "_", "-", "!", "a\t", "\ta", "red\r", "None ", "0x",
]
# Rows that are no lamp's of that floor, behind a colour's name.
NO_LAMPS = [
    # Blanks.
    "", " ", "  ", "   ", "0 0 5", " 0 0 5", "   0 0 5", "    0 0 5", "  0  0 5", "  0 0  5", "  0 0 5 ", "  0 0 5  ",
    "0 0 0 5", "a 0 0 5", " a0 0 5", "--0 0 5", "\t 0 0 5", " \t0 0 5", "\t0 0 5", "  \t0 0 5", "  0\t0\t5", "  0 0 5\t", "  0 0 5\r",
    # Counts.
    "  0", "  0 0", "  0 0 ", "  0 0 5 5", "  0 0 5 1 0 5", "  005",
    # Noughts ahead.
    "  00 0 5", "  0 00 5", "  0 0 05", "  0 0 005", "  01 0 5", "  0 02 5", "  000 0 5",
    # Strengths that are none.
    "  0 0 0", "  0 0 00", "  0 0 -5", "  0 0 +5", "  0 0 1" + "0" * 60, "  0 0 " + "9" * 61, "  0 0 " + "9" * 5000,
    "  0 0 five", "  0 0 5.0", "  0 0 5_0", "  0 0 .", "  0 0 #", "  0 0 0x5", "  0 0 1e3", "  0 0 True",
    # Places that there are not.
    "  2 0 5", "  0 3 5", "  2 3 5", "  30 0 5", "  -1 0 5", "  0 -1 5", "  -0 0 5", "  +0 0 5", "  0 +0 5",
    "  " + "9" * 70 + " 0 5", "  0 " + "9" * 70 + " 5", "  " + "9" * 5000 + " 0 5", "  a 0 5", "  0 b 5", "  . . 5",
    "  (0, 0) 5", "  0, 0, 5", "  0,0 5",
    # A wall.
    "  0 1 5", "  0 1 1",
    # Rows of another kind.
    ". # 7", ". . .", ".", "#", "5", "  red", "  b", "red 0 0 5", "put red 0 0 5",
]


def made(losses, lamps):
    """A hall of losses, and by colours their lamps."""
    hall = Hall(Floor(losses), list(lamps))
    hall.do_all([("put", colour, place, strength) for colour in lamps for place, strength in lamps[colour]])
    return hall


def slow_text(losses, lamps):
    words = {0: "#", 1: "."}
    rows = [" ".join(words.get(loss, str(loss)) for loss in row) for row in losses]
    for colour in lamps:
        rows.append(colour)
        for (row, column), strength in sorted(lamps[colour]):
            rows.append(f"  {row} {column} {strength}")
    return "\n".join(rows)


class TestWritten(unittest.TestCase):
    def check(self, losses, lamps):
        hall = made(losses, lamps)
        before = state(hall)
        text = write_hall(hall)
        self.assertIs(type(text), str)
        self.assertEqual(text, slow_text(losses, lamps))
        self.assertEqual(state(hall), before)
        again = read_hall(text)
        self.assertIs(type(again), Hall)
        self.assertEqual(state(again), before)
        self.assertEqual(again.lights(list(lamps)[0]), slow_lights(losses, lamps[list(lamps)[0]]))
        self.assertEqual(write_hall(again), text)
        for place in ((0, 0), (len(losses) - 1, len(losses[0]) - 1)):
            self.assertEqual((again.glow(place), again.strongest(place)), (hall.glow(place), hall.strongest(place)))
            for colour in lamps:
                self.assertEqual(again.source(colour, place), hall.source(colour, place))

    def test_by_hand(self):
        hall = made(LOSSES, {"red": [((1, 2), 7), ((0, 0), 3)], "b": [], "a": [((0, 2), GREATEST)]})
        text = ". # 7\n. . .\nred\n  0 0 3\n  1 2 7\nb\na\n  0 2 " + "9" * 60
        self.assertEqual(write_hall(hall), text)
        self.assertEqual(state(read_hall(text)), state(hall))
        self.assertEqual(write_hall(Hall(Floor([[0]]), ["x"])), "#\nx")
        self.assertEqual(state(read_hall("#\nx")), ([[0]], ["x"], [([], [[0]])]))

    def test_colours_in_the_order_told(self):
        for order in itertools.permutations(["b", "aa", "c"]):
            text = ".\n" + "\n".join(order)
            self.assertEqual(write_hall(Hall(Floor([[1]]), order)), text)
            self.assertEqual(read_hall(text).colours(), list(order))

    def test_one_to_eight_colours(self):
        for many in range(1, 9):
            self.check([[1, 2]], {colour: [] for colour in COLOURS[:many]})
            self.check([[1, 2]], {colour: [((0, 1), number + 1)] for number, colour in enumerate(COLOURS[:many])})

    def test_strengths_of_every_length(self):
        for figures in range(1, 61):
            self.check([[1, 1, 1]], {"a": [((0, 2), 10 ** figures - 1), ((0, 0), 10 ** (figures - 1))]})

    def test_lamps_in_the_order_of_numbers(self):
        hall = made([[1] * 12] * 12, {"a": [((10, 2), 1), ((2, 10), 2), ((2, 9), 3), ((9, 11), 4)]})
        floor = "\n".join([" ".join(["."] * 12)] * 12)
        text = floor + "\na\n  2 9 3\n  2 10 2\n  9 11 4\n  10 2 1"
        self.assertEqual(write_hall(hall), text)
        self.assertEqual(state(read_hall(text)), state(hall))

    def test_drawn_ones(self):
        draw = random.Random(1300)
        for high, wide in ((1, 1), (1, 6), (6, 1), (4, 5)):
            for turn in range(15):
                losses = drawn_floor(draw, high, wide)
                colours = draw.sample(COLOURS, draw.randrange(1, 9))
                self.check(losses, {colour: drawn_lamps(draw, losses, draw.choice([0, 1, 3, 9])) for colour in colours})

    def test_the_greatest_floors(self):
        draw = random.Random(1301)
        for choices in ([1], [0, 1, 2, 3], [1, 1, 12]):
            losses = [[draw.choice(choices) for column in range(30)] for row in range(30)]
            self.check(losses, {"abcdefgh": drawn_lamps(draw, losses, 60), "b": drawn_lamps(draw, losses, 5)})
        everywhere = {"a": [((row, column), 3) for row in range(30) for column in range(30)]}
        text = slow_text([[1] * 30] * 30, everywhere)
        self.assertEqual(write_hall(made([[1] * 30] * 30, everywhere)), text)
        self.assertEqual(read_hall(text).lamps("a"), everywhere["a"])
        self.check([[GREAT] * 9] * 30, {"a": [((29, 8), GREATEST)]})

    def test_behind_deeds(self):
        hall = made([[1, 0, 5]], {"a": [((0, 0), 4)], "b": []})
        hall.do_all([("open", (0, 1)), ("glass", (0, 0), 9), ("put", "b", (0, 2), 6), ("move", "a", (0, 0), (0, 1))])
        self.assertEqual(write_hall(hall), "9 . 5\na\n  0 1 4\nb\n  0 2 6")

    def test_two_read_halls_have_nothing_to_do_with_one_another(self):
        text = ". .\na\n  0 0 5"
        one, other = read_hall(text), read_hall(text)
        spoil(one.lamps("a"))
        spoil(one.lights("a"))
        one.do_all([("wall", (0, 1)), ("turn", "a", (0, 0), 9)])
        self.assertEqual(state(other), ([[1, 1]], ["a"], [([((0, 0), 5)], [[5, 4]])]))
        self.assertEqual(write_hall(other), text)


class TestRefused(unittest.TestCase):
    def refused(self, text, line):
        with self.subTest(text=text[:300]):
            with self.assertRaises(NoText) as taken:
                read_hall(text)
            self.assertEqual(taken.exception.line, line)
            self.assertIs(type(taken.exception.line), int)

    def test_without_signs_and_without_a_floor_s_row(self):
        self.refused("", 0)
        self.refused("a", 0)
        self.refused("a\nb", 0)
        self.refused("a\n  0 0 5", 0)
        self.refused("a\n.\nb", 0)
        self.refused("\na", 0)
        self.refused("\n", 0)
        self.refused(" \na", 0)

    def test_without_a_colour_at_the_number_of_rows(self):
        self.refused(".", 1)
        self.refused(FLOOR, 2)
        self.refused("\n".join([". 2"] * 30), 30)
        # A floor's fault comes ahead of it.
        self.refused(". .\n.", 1)
        self.refused(". .\n. x", 1)
        self.refused(FLOOR + "\n", 2)

    def test_a_lamp_s_row_ahead_of_any_colour_s(self):
        self.refused(FLOOR + "\n  0 0 5", 2)
        self.refused(FLOOR + "\n  0 0 5\na", 2)
        self.refused("  0 0 5\n" + FLOOR + "\na", 0)
        self.refused("  0 0 5", 0)
        self.refused(". # 7\n  0 0 5\n. . .\na", 1)

    def test_a_floor_s_rows(self):
        for row in ("", ". .", ". . . .", ". . 0", ". . 1", ". . 02", ". .  .", ". . . ", " . . .", "...", ". . x", ". . -2"):
            self.refused(FLOOR + "\n" + row + "\n. . .\na", 2)
            self.refused(". . .\n" + row + "\na", 1)
        self.refused(". .\n. . 0\n.\na", 1)
        self.refused(" ".join(["."] * 31) + "\na", 0)
        self.refused(". . 1" + "0" * 60 + "\na", 0)
        self.refused("\n".join(["."] * 31 + ["a"]), 30)
        self.refused("\n".join(["."] * 40), 30)
        self.assertEqual(read_hall("\n".join(["."] * 30 + ["a"])).floor().rows(), [[1]] * 30)
        # Rows that follow do not come ahead of it.
        self.refused(". x .\na\na\n  9 9 9", 0)

    def test_a_floor_s_row_behind_a_colour_s_name(self):
        self.refused(". # 7\na\n. . .", 2)
        self.refused(". # 7\na\n  0 0 5\n. . .", 3)
        self.refused("2\na\n2", 2)

    def test_names(self):
        for name in NO_NAMES:
            self.refused(FLOOR + "\n" + name, 2)
            self.refused(FLOOR + "\n" + name + "\na", 2)
            self.refused(FLOOR + "\na\n" + name, 3)
            self.refused(FLOOR + "\na\n  0 0 5\n" + name + "\nb", 4)
        self.assertEqual(read_hall(FLOOR + "\nabcdefgh\nz").colours(), ["abcdefgh", "z"])

    def test_a_colour_twice(self):
        self.refused(FLOOR + "\na\na", 3)
        self.refused(FLOOR + "\na\nb\n  0 0 5\na\n  1 0 5", 5)
        self.refused(FLOOR + "\na\n  0 0 5\na\n  0 2 5", 4)

    def test_a_ninth_colour(self):
        eight = FLOOR + "\n" + "\n".join(COLOURS)
        self.assertEqual(read_hall(eight).colours(), COLOURS)
        self.refused(eight + "\nninth", 10)
        self.refused(eight + "\n  0 0 5\nninth\n  0 0 5", 11)
        self.refused(eight + "\n" + COLOURS[0], 10)

    def test_rows_that_are_no_lamp_s(self):
        for row in NO_LAMPS:
            self.refused(FLOOR + "\na\n" + row, 3)
            self.refused(FLOOR + "\na\n" + row + "\nb", 3)
            self.refused(FLOOR + "\na\n  0 0 5\n" + row, 4)
            self.refused(FLOOR + "\na\n  0 0 5\nb\n" + row + "\n  1 2 5", 5)

    def test_a_lamp_that_is_not_behind_the_one_ahead_of_it(self):
        for one, other in itertools.product(("0 0", "0 2", "1 0", "1 1", "1 2"), repeat=2):
            text = FLOOR + "\na\nb\n  " + one + " 5\n  " + other + " 6"
            if one < other:
                self.assertEqual(len(read_hall(text).lamps("b")), 2)
            else:
                self.refused(text, 5)
        self.refused(FLOOR + "\na\n  0 0 5\n  0 0 5", 4)
        self.refused(FLOOR + "\na\n  0 0 5\n  1 2 5\n  1 1 5", 5)
        # Another colour's lamps begin anew.
        self.assertEqual(read_hall(FLOOR + "\na\n  1 2 5\nb\n  0 0 5").lamps("b"), [((0, 0), 5)])

    def test_a_line_end_at_the_end(self):
        self.refused(FLOOR + "\na\n", 3)
        self.refused(FLOOR + "\na\n  0 0 5\n", 4)
        self.refused(FLOOR + "\na\n\nb", 3)

    def test_the_first_of_several_rows_is_told(self):
        self.refused(FLOOR + "\na\n  0 0 0\n  9 9 9\na", 3)
        self.refused(FLOOR + "\na\n  0 0 5\n  0 0 5\na\n?", 4)
        self.refused(FLOOR + "\na\nb\na\n  0 1 5", 4)

    def test_sixty_figures_are_a_strength(self):
        self.assertEqual(read_hall(FLOOR + "\na\n  0 0 " + "9" * 60).lamps("a"), [((0, 0), GREATEST)])
        self.assertEqual(read_hall(FLOOR + "\na\n  0 0 1\n  0 2 10").lamps("a"), [((0, 0), 1), ((0, 2), 10)])

    def test_what_is_refused_leaves_what_is_there(self):
        hall = read_hall(FLOOR + "\na\n  0 0 5")
        before = state(hall)
        self.refused(FLOOR + "\na\n  0 0 6\n  0 0 7", 4)
        self.assertEqual(state(hall), before)
        self.assertEqual(write_floor(hall.floor()), FLOOR)


if __name__ == "__main__":
    unittest.main()
