"""Rows of deeds as texts: written, read back, refused by their rows, and played in a hall."""

import copy
import random
import unittest

from glowcells.errors import NoText, Stopped
from glowcells.floors import Floor
from glowcells.halls import Hall
from glowcells.played import play, read_deeds, write_deeds
from glowcells.saved import write_hall
from tests.reckoning import GREATEST, Model, drawn_floor, drawn_row, spoil, state

DEEDS = [
    (("put", "ab", (0, 1), 5), "put ab 0 1 5"),
    (("out", "abcdefgh", (2, 0)), "out abcdefgh 2 0"),
    (("move", "ab", (0, 1), (2, 3)), "move ab 0 1 2 3"),
    (("turn", "z", (29, 29), GREATEST), "turn z 29 29 " + "9" * 60),
    (("wall", (0, 1)), "wall 0 1"),
    (("open", (10, 0)), "open 10 0"),
    (("glass", (0, 1), 5), "glass 0 1 5"),
]
NO_DEEDS = [
    # Words.
    "x", "Put ab 0 1 5", "PUT ab 0 1 5", "puts ab 0 1 5", "pu ab 0 1 5", "set ab 0 1 5", "ab put 0 1 5", "0 1", "5",
    "ab", "walls 0 1", "place 0 1", "None", "#", ".", "wall0 1", "putab 0 1 5",
    # Counts.
    "put", "put ab", "put ab 0", "put ab 0 1", "put ab 0 1 5 6", "out", "out ab", "out ab 0", "out ab 0 1 5",
    "move", "move ab", "move ab 0 1", "move ab 0 1 2", "move ab 0 1 2 3 4", "turn", "turn ab 0 1", "turn ab 0 1 5 5",
    "wall", "wall 0", "wall 0 1 2", "open", "open 0", "open 0 1 1", "glass", "glass 0 1", "glass 0 1 5 5",
    # Colours that are none, or where none is.
    "put 0 1 5", "put 5 0 1 5", "put Ab 0 1 5", "put AB 0 1 5", "put abcdefghi 0 1 5", "put a1 0 1 5", "put a_b 0 1 5",
    "put - 0 1 5", "put ab cd 0 1 5", "put  0 1 5", "out 0 1", "out 0 0 1", "move 0 1 2 3", "move 0 0 1 2 3",
    "turn 0 1 5", "wall ab 0 1", "open ab 0 1", "glass ab 0 1 5", "wall ab 0", "glass ab 0 1", "put a, 0 1 5",
    # Noughts ahead and signs.
    "put ab 00 1 5", "put ab 0 01 5", "put ab 0 1 05", "put ab 0 1 00", "wall 00 0", "wall 0 00", "glass 0 1 05",
    "put ab -1 0 5", "put ab 0 -1 5", "put ab 0 1 -5", "put ab +0 1 5", "put ab 0 +1 5", "put ab 0 1 +5", "wall -0 0",
    "put ab 0 1 0" + "9" * 100,
    # What is no figures.
    "put ab 0 1 five", "put ab 0 1 5.0", "put ab 0 1 1e3", "put ab 0 1 5_0", "put ab 0 1 0x5", "put ab (0, 1) 5",
    "put ab 0,1 5", "wall a b", "wall 0 True", "wall None 0", "glass 0 1 #", "glass 0 1 .", "wall 0 1.",
    # Blanks.
    "", " ", "  ", " put ab 0 1 5", "put  ab 0 1 5", "put ab  0 1 5", "put ab 0  1 5", "put ab 0 1  5", "put ab 0 1 5 ",
    " wall 0 1", "  wall 0 1", "wall  0 1", "wall 0  1", "wall 0 1 ", "wall 0 1  ", "wall\t0 1", "wall 0\t1", "wall 0 1\t",
    "wall 0 1\r", "wall ", "put ", "put ab ",
]


def as_lists(deed):
    return [list(part) if isinstance(part, tuple) else part for part in deed]


class Checked(unittest.TestCase):
    def is_no_text(self, call, text, line):
        with self.subTest(text=text[:300]):
            with self.assertRaises(NoText) as taken:
                call(text)
            self.assertEqual(taken.exception.line, line)
            self.assertIs(type(taken.exception.line), int)


class TestWritten(Checked):
    def check(self, deeds, text):
        before = copy.deepcopy(deeds)
        written = write_deeds(deeds)
        self.assertEqual(written, text)
        self.assertIs(type(written), str)
        self.assertEqual(deeds, before)

    def test_each_word(self):
        for deed, text in DEEDS:
            for form in (deed, list(deed), as_lists(deed), tuple(as_lists(deed))):
                self.check([form], text)
                self.check((form,), text)

    def test_none(self):
        self.check([], "")
        self.check((), "")

    def test_rows(self):
        self.check([deed for deed, text in DEEDS], "\n".join(text for deed, text in DEEDS))
        self.check([as_lists(deed) for deed, text in DEEDS[::-1]], "\n".join(text for deed, text in DEEDS[::-1]))
        self.check([DEEDS[0][0]] * 60, "\n".join([DEEDS[0][1]] * 60))
        self.check([("wall", (0, 0)), ("wall", (0, 0))], "wall 0 0\nwall 0 0")


class TestRead(Checked):
    def check(self, text, deeds):
        told = read_deeds(text)
        self.assertEqual(told, deeds)
        self.assertIs(type(told), list)
        for deed in told:
            self.assertIs(type(deed), tuple)
            for part in deed:
                self.assertIn(type(part), (str, tuple, int))

    def test_each_word(self):
        for deed, text in DEEDS:
            self.check(text, [deed])

    def test_none(self):
        self.check("", [])

    def test_rows(self):
        self.check("\n".join(text for deed, text in DEEDS), [deed for deed, text in DEEDS])
        self.check("\n".join([DEEDS[2][1]] * 60), [DEEDS[2][0]] * 60)

    def test_read_back(self):
        draw = random.Random(1400)
        for turn in range(200):
            deeds = []
            for number in range(draw.randrange(0, 9)):
                word = draw.choice([deed[0] for deed, text in DEEDS])
                deed = next(deed for deed, text in DEEDS if deed[0] == word)
                deeds.append(tuple(self.drawn_part(draw, part) for part in deed))
            self.check(write_deeds(deeds), deeds)
            self.check(write_deeds([as_lists(deed) for deed in deeds]), deeds)
            self.assertEqual(write_deeds(read_deeds(write_deeds(deeds))), write_deeds(deeds))

    def drawn_part(self, draw, part):
        if isinstance(part, tuple):
            return draw.randrange(30), draw.randrange(30)
        if isinstance(part, int):
            return draw.choice([0, 1, 2, 10, 100, GREATEST])
        if part in ("put", "out", "move", "turn", "wall", "open", "glass"):
            return part
        return draw.choice(["a", "zz", "abcdefgh", "put", "wall", "open"])

    def test_whatever_the_numbers_and_colours_are(self):
        great = 10 ** 200 - 1
        figures = "9" * 200
        for text, deed in (
            ("put ab 0 0 0", ("put", "ab", (0, 0), 0)),
            ("turn ab 0 0 0", ("turn", "ab", (0, 0), 0)),
            ("glass 0 0 0", ("glass", (0, 0), 0)),
            ("glass 0 0 1", ("glass", (0, 0), 1)),
            ("wall 30 0", ("wall", (30, 0))),
            ("move ab 99 100 1000 30", ("move", "ab", (99, 100), (1000, 30))),
            ("move ab 0 0 0 0", ("move", "ab", (0, 0), (0, 0))),
            ("put ab 0 0 " + figures, ("put", "ab", (0, 0), great)),
            ("put ab " + figures + " " + figures + " " + figures, ("put", "ab", (great, great), great)),
            ("glass 0 " + figures + " " + figures, ("glass", (0, great), great)),
            ("wall " + figures + " 0", ("wall", (great, 0))),
            ("out qqqqqqqq 0 1" + "0" * 199, ("out", "qqqqqqqq", (0, 10 ** 199))),
            ("put put 0 0 5", ("put", "put", (0, 0), 5)),
            ("out wall 0 0", ("out", "wall", (0, 0))),
        ):
            self.check(text, [deed])
            self.assertEqual(write_deeds([deed]), text)

    def test_what_is_told_leads_nowhere(self):
        text = "put ab 0 1 5\nwall 0 0"
        spoil(read_deeds(text))
        spoil(read_deeds(""))
        self.check(text, [("put", "ab", (0, 1), 5), ("wall", (0, 0))])
        self.check("", [])

    def test_rows_that_are_not_written_so(self):
        for row in NO_DEEDS:
            if row != "":
                self.is_no_text(read_deeds, row, 0)
            self.is_no_text(read_deeds, row + "\nwall 0 1", 0)
            self.is_no_text(read_deeds, "wall 0 1\n" + row, 1)
            self.is_no_text(read_deeds, "put ab 0 1 5\nwall 0 1\n" + row + "\nopen 0 0", 2)

    def test_the_first_of_several_rows_is_told(self):
        self.is_no_text(read_deeds, "wall 0 1\nx\ny", 1)
        self.is_no_text(read_deeds, "\n\n", 0)
        self.is_no_text(read_deeds, "wall 0 1\n\nx", 1)

    def test_line_ends_alone_and_at_an_end(self):
        self.is_no_text(read_deeds, "\n", 0)
        self.is_no_text(read_deeds, "wall 0 1\n", 1)
        self.is_no_text(read_deeds, "\nwall 0 1", 0)
        self.is_no_text(read_deeds, "\n".join(["wall 0 1"] * 59) + "\n", 59)

    def test_more_figures_than_two_hundred(self):
        for figures in (201, 300, 5000):
            self.is_no_text(read_deeds, "wall 0 1\nput ab 0 0 " + "9" * figures, 1)
            self.is_no_text(read_deeds, "wall " + "9" * figures + " 0", 0)


class TestPlayed(Checked):
    def hall(self):
        hall = Hall(Floor([[1, 1, 1], [1, 0, 5]]), ["ab", "c"])
        hall.do_all([("put", "ab", (0, 0), 4), ("put", "c", (1, 2), 2)])
        return hall

    def test_by_hand(self):
        hall = self.hall()
        told = play(hall, "put c 0 0 2\nwall 0 1\nmove ab 0 0 1 0")
        self.assertEqual(told, [
            ("ab", [((0, 0), 4, 3), ((0, 1), 3, 0), ((0, 2), 2, 0), ((1, 0), 3, 4)]),
            ("c", [((0, 0), 0, 2), ((1, 0), 0, 1)]),
        ])
        self.assertEqual(hall.floor().rows(), [[1, 0, 1], [1, 0, 5]])
        self.assertEqual((hall.lamps("ab"), hall.lamps("c")), ([((1, 0), 4)], [((0, 0), 2), ((1, 2), 2)]))
        self.assertEqual(play(hall, ""), [])
        self.assertEqual(play(hall, "open 0 1\nwall 0 1"), [])

    def test_what_do_all_tells(self):
        for seed in range(1410, 1425):
            draw = random.Random(seed)
            losses = drawn_floor(draw, draw.choice([1, 3, 5]), draw.choice([1, 4, 5]))
            colours = draw.sample(["red", "b", "zz"], draw.choice([1, 2, 3]))
            one, other = Hall(Floor(losses), colours), Hall(Floor(losses), colours)
            model = Model(losses, (), colours)
            for turn in range(12):
                deeds, why, ahead = drawn_row(draw, model, draw.choice([0, 1, 3, 8]))
                if why is None:
                    told = play(one, write_deeds(deeds))
                    self.assertEqual(told, other.do_all(deeds))
                    self.assertEqual(state(one), state(other))
                    model = ahead

    def test_a_text_that_is_refused_leaves_all_as_it_was(self):
        hall = self.hall()
        before = state(hall), write_hall(hall)
        for row in NO_DEEDS:
            self.is_no_text(lambda text: play(hall, text), "put c 0 0 2\nwall 0 1\n" + row, 2)
        # Read as a whole first: a row that would be stopped does not come ahead.
        self.is_no_text(lambda text: play(hall, text), "put zz 0 0 2\nwall 9 9\nx", 2)
        self.assertEqual((state(hall), write_hall(hall)), before)

    def test_a_row_that_is_stopped_leaves_all_as_it_was(self):
        hall = self.hall()
        before = state(hall), write_hall(hall)
        for row, why in (
            ("put zz 0 1 5", "NoColour"), ("out zz 9 9", "NoColour"), ("put c 2 0 5", "NoPlace"), ("wall 0 3", "NoPlace"),
            ("move c 1 2 9 9", "NoPlace"), ("wall " + "9" * 200 + " 0", "NoPlace"), ("put c 0 1 0", "NoStrength"),
            ("put c 0 1 " + "9" * 61, "NoStrength"), ("turn c 1 2 " + "9" * 200, "NoStrength"), ("glass 0 1 1", "NoLoss"),
            ("glass 0 1 0", "NoLoss"), ("glass 0 1 " + "9" * 200, "NoLoss"), ("out c 0 1", "NoLamp"),
            ("move c 0 0 0 1", "NoLamp"), ("turn c 0 1 5", "NoLamp"), ("put c 1 1 5", "Walled"), ("glass 1 1 2", "Walled"),
            ("put ab 0 0 5", "Taken"), ("move ab 0 0 0 0", "Taken"), ("wall 0 0", "Taken"), ("wall 1 1", "Taken"),
        ):
            for text, at in ((row, 0), ("put c 0 2 9\nglass 0 2 7\n" + row, 2), ("open 0 0\n" + row + "\nwall 9 9", 1)):
                with self.subTest(text=text):
                    with self.assertRaises(Stopped) as taken:
                        play(hall, text)
                    self.assertEqual((taken.exception.at, taken.exception.why), (at, why))
                    self.assertEqual((state(hall), write_hall(hall)), before)

    def test_played_on_behind_a_refusal(self):
        hall = self.hall()
        for text in ("wall 0 1\nx", "wall 0 1\nwall 0 1"):
            with self.assertRaises((NoText, Stopped)):
                play(hall, text)
        self.assertEqual(play(hall, "wall 0 1"), self.hall().do_all([("wall", (0, 1))]))

    def test_sixty_deeds(self):
        hall = self.hall()
        told = play(hall, "\n".join(["wall 0 1", "open 0 1"] * 29 + ["out ab 0 0", "put ab 0 0 5"]))
        self.assertEqual(told, self.hall().do_all([("turn", "ab", (0, 0), 5)]))

    def test_what_is_told_leads_nowhere(self):
        hall = self.hall()
        spoil(play(hall, "turn ab 0 0 9"))
        other = self.hall()
        other.do(("turn", "ab", (0, 0), 9))
        self.assertEqual(state(hall), state(other))


if __name__ == "__main__":
    unittest.main()
