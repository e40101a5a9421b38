"""Halls: colours, their deeds and refusals, changes by colours, glow and strongest."""

import copy
import random
import unittest

from glowcells import errors
from glowcells.boards import Board
from glowcells.floors import Floor
from glowcells.halls import Hall
from tests.reckoning import (
    GREATEST, NO_GLASS, NO_STRENGTHS, Model, at, changes, drawn_floor, drawn_row, no_places, places_of, slow_lights,
    spoil, state, winding,
)

LOSSES = [[1, 1, 1, 1], [1, 0, 5, 1], [1, 1, 1, 1]]
COLOURS = ["red", "b", "green"]
LAMPS = {"red": [((0, 0), 6), ((2, 3), 4)], "b": [((0, 0), 3)], "green": []}
NO_PLACES = no_places(3, 4)
NO_COLOURS = [
    "", "blue", "Red", "RED", "red ", " red", "re", "redd", "a1", "abcdefghi", "r d", "b\n",
    None, True, False, 0, 1, [], ["red"], ("red",), {}, {"red": 1},
]
NO_DEEDS = [
    None, True, 0, "", "put", "wall", {}, object(), (), [], (None,), (0,), ([], (0, 0)), ({}, "red", (0, 0)),
    ("",), ("Put", "red", (0, 1), 5), ("set", "red", (0, 1), 5), ("red", "put", (0, 1), 5), (["put"], "red", (0, 1), 5),
    ("put",), ("put", "red"), ("put", "red", (0, 1)), ("put", "red", (0, 1), 5, 5), ("put", (0, 1), 5),
    ("out",), ("out", "red"), ("out", (0, 0)), ("out", "red", (0, 0), 6),
    ("move",), ("move", "red"), ("move", "red", (0, 0)), ("move", (0, 0), (0, 1)), ("move", "red", (0, 0), (0, 1), 1),
    ("turn",), ("turn", "red"), ("turn", "red", (0, 0)), ("turn", (0, 0), 5), ("turn", "red", (0, 0), 5, 5),
    ("wall",), ("wall", "red", (0, 1)), ("wall", (0, 1), "red"), ("open",), ("open", "red", (0, 1)),
    ("glass",), ("glass", (0, 1)), ("glass", "red", (0, 1), 2), ["glass", [0, 1]],
    ("put", "zz"), ("put", "zz", (0, 1)), ("out", None), ("hang", "zz", (9, 9), 0), ("move", "zz", (9, 9), None, 1),
]


def made():
    hall = Hall(Floor(LOSSES), COLOURS)
    for colour in COLOURS:
        for place, strength in LAMPS[colour]:
            hall.do(("put", colour, place, strength))
    return hall


class Checked(unittest.TestCase):
    def as_made_anew(self, hall):
        for colour in hall.colours():
            self.assertEqual(hall.lights(colour), slow_lights(hall.floor().rows(), hall.lamps(colour)))

    def refused(self, name, deed, hall=None):
        hall = hall or made()
        before = state(hall)
        with self.assertRaises(getattr(errors, name)):
            hall.do(deed)
        self.assertEqual(state(hall), before)
        self.stopped(0, name, [deed], hall)
        self.stopped(2, name, (("glass", (2, 0), 9), ("put", "green", (2, 0), 9), deed, ("nothing",)), hall)

    def stopped(self, number, name, deeds, hall):
        before = state(hall)
        with self.assertRaises(errors.Stopped) as caught:
            hall.do_all(deeds)
        self.assertEqual((caught.exception.at, caught.exception.why), (number, name))
        self.assertEqual(state(hall), before)

    def done(self, deed):
        for handed in (deed, [list(part) if type(part) is tuple else part for part in deed]):
            for in_row in (False, True):
                hall = made()
                model = Model(LOSSES, (), COLOURS)
                model.lamps = {colour: dict(LAMPS[colour]) for colour in COLOURS}
                before = {colour: model.lights(colour) for colour in COLOURS}
                kept = copy.deepcopy(handed)
                told = hall.do_all([handed]) if in_row else hall.do(handed)
                self.assertEqual(handed, kept)
                model.do(deed)
                self.held_against(hall, model, before, told)

    def held_against(self, hall, model, before, told):
        self.assertEqual(hall.floor().rows(), model.losses)
        asked = []
        for colour in hall.colours():
            self.assertEqual(hall.lamps(colour), sorted(model.lamps[colour].items()))
            behind = model.lights(colour)
            self.assertEqual(hall.lights(colour), behind)
            if behind != before[colour]:
                asked.append((colour, changes(before[colour], behind)))
        self.assertEqual(told, asked)
        self.assertEqual([type(part) for part in [told] + told], [list] + [tuple] * len(told))
        for colour, changed in told:
            self.assertEqual([type(change) for change in [changed] + changed], [list] + [tuple] * len(changed))


class TestMade(Checked):
    def test_of_one_to_eight_colours_in_the_order_told(self):
        names = ["zebra", "a", "abcdefgh", "m", "zz", "b", "aa", "ab"]
        for many in range(1, 9):
            for colours in (names[:many], tuple(names[:many]), names[-many:]):
                hall = Hall(Floor(LOSSES), colours)
                self.assertEqual(hall.colours(), list(colours))
                self.assertEqual(hall.floor().rows(), LOSSES)
                self.assertIsInstance(hall.floor(), Floor)
                for colour in colours:
                    self.assertEqual((hall.lamps(colour), hall.lights(colour)), ([], [[0] * 4] * 3))
                self.assertEqual((hall.glow((0, 0)), hall.strongest((0, 0))), ([0] * many, []))

    def test_each_small_letter_and_each_length(self):
        letters = "abcdefghijklmnopqrstuvwxyz"
        for letter in letters:
            self.assertEqual(Hall(Floor([[1]]), [letter]).colours(), [letter])
            self.assertEqual(Hall(Floor([[1]]), [letter * 8]).colours(), [letter * 8])
            self.assertRaises(errors.NoColour, Hall, Floor([[1]]), [letter.upper()])
            self.assertRaises(errors.NoColour, Hall, Floor([[1]]), [letter * 9])
        for number in range(32, 127):
            if chr(number) not in letters:
                for colour in (chr(number), "a" + chr(number), chr(number) + "a"):
                    self.assertRaises(errors.NoColour, Hall, Floor([[1]]), [colour])

    def test_other_colours(self):
        for colours in (
            [], (), None, "", "a", "ab", "red", {}, {"a": 1}, 0, 1, True,
            list("abcdefghi"), list("abcdefghijkl"), ["a", "a"], ["a", "b", "a"], ["red", "b", "red"], list("abcdefgg"),
            ["A"], ["a", "B"], ["a1"], ["1"], [""], ["a", ""], ["abcdefghi"], ["a b"], ["a "], ["a\n"], ["a-b"], ["a_b"],
            [None], ["a", None], [None, None], [1], [True], [["a"]], [("a",)], ["a", ["a"]], [{}], [[], []], [b"a"],
        ):
            with self.subTest(colours=colours), self.assertRaises(errors.NoColour):
                Hall(Floor(LOSSES), colours)

    def test_a_colour_that_it_does_not_have_ahead_of_no_place(self):
        hall = made()
        for colour in NO_COLOURS:
            with self.subTest(colour=colour):
                self.assertRaises(errors.NoColour, hall.lamps, colour)
                self.assertRaises(errors.NoColour, hall.lights, colour)
                self.assertRaises(errors.NoColour, hall.source, colour, (0, 0))
                self.assertRaises(errors.NoColour, hall.source, colour, (9, 9))
                self.assertRaises(errors.NoColour, hall.source, colour, None)

    def test_no_place(self):
        hall = made()
        for place in NO_PLACES:
            with self.subTest(place=place):
                self.assertRaises(errors.NoPlace, hall.source, "red", place)
                self.assertRaises(errors.NoPlace, hall.glow, place)
                self.assertRaises(errors.NoPlace, hall.strongest, place)


class TestDeeds(Checked):
    def test_with_lamps(self):
        for deed in (
            ("put", "red", (0, 3), 9), ("put", "b", (0, 3), 9), ("put", "green", (0, 0), 1), ("put", "green", (1, 2), GREATEST),
            ("put", "b", (2, 3), 4),
            ("out", "red", (0, 0)), ("out", "b", (0, 0)), ("out", "red", (2, 3)),
            ("move", "red", (0, 0), (0, 1)), ("move", "b", (0, 0), (2, 3)), ("turn", "red", (0, 0), 20), ("turn", "b", (0, 0), 1),
        ):
            with self.subTest(deed=deed):
                self.done(deed)

    def test_with_the_floor(self):
        for deed in (
            ("wall", (0, 1)), ("wall", (1, 2)), ("wall", (2, 0)), ("open", (1, 1)), ("open", (1, 2)), ("open", (0, 0)),
            ("glass", (0, 1), 2), ("glass", (0, 0), 3), ("glass", (1, 2), GREATEST),
        ):
            with self.subTest(deed=deed):
                self.done(deed)

    def test_what_changes_nothing_is_done_all_the_same(self):
        for deed in (("turn", "red", (0, 0), 6), ("open", (0, 1)), ("glass", (1, 2), 5)):
            self.assertEqual(made().do(deed), [])
            self.done(deed)

    def test_one_colour_leaves_the_others(self):
        hall = made()
        told = hall.do(("put", "green", (0, 0), 2))
        self.assertEqual(told, [("green", [((0, 0), 0, 2), ((0, 1), 0, 1), ((1, 0), 0, 1)])])
        self.assertEqual((hall.lamps("red"), hall.lamps("b")), (LAMPS["red"], LAMPS["b"]))
        told = hall.do(("out", "red", (0, 0)))
        self.assertEqual([colour for colour, changed in told], ["red"])
        self.assertEqual((hall.lamps("b"), hall.lamps("green")), (LAMPS["b"], [((0, 0), 2)]))

    def test_lamps_of_several_colours_at_one_place(self):
        hall = Hall(Floor([[1, 1]]), ["a", "b", "c"])
        for colour, strength in (("c", 2), ("a", 5), ("b", 1)):
            hall.do(("put", colour, (0, 0), strength))
        self.assertEqual([hall.lamps(colour) for colour in "abc"], [[((0, 0), 5)], [((0, 0), 1)], [((0, 0), 2)]])
        self.assertEqual((hall.glow((0, 0)), hall.glow((0, 1))), ([5, 1, 2], [4, 0, 1]))
        self.refused_in_row(hall, ("put", "a", (0, 0), 5))
        hall.do(("out", "a", (0, 0)))
        self.assertEqual(hall.glow([0, 0]), [0, 1, 2])

    def refused_in_row(self, hall, deed):
        self.assertRaises(errors.Taken, hall.do, deed)
        self.stopped(0, "Taken", [deed], hall)

    def test_a_wall_where_a_lamp_of_any_colour_stands(self):
        for colours in (["a", "b", "c"], ["c", "b", "a"]):
            for colour in colours:
                hall = Hall(Floor([[1, 1, 1]]), colours)
                hall.do(("put", colour, (0, 1), 5))
                self.refused_in_row(hall, ("wall", (0, 1)))
                hall.do(("move", colour, (0, 1), (0, 2)))
                self.assertEqual([name for name, changed in hall.do(("wall", (0, 1)))], [colour])

    def test_a_wall_changes_several_colours_in_their_order(self):
        hall = Hall(Floor([[1, 1, 1]]), ["z", "m", "a", "b"])
        hall.do_all([("put", "a", (0, 0), 9), ("put", "z", (0, 2), 2), ("put", "b", (0, 0), 1)])
        self.assertEqual(hall.do(("wall", (0, 1))), [("z", [((0, 1), 1, 0)]), ("a", [((0, 1), 8, 0), ((0, 2), 7, 0)])])
        self.assertEqual(hall.do(("open", (0, 1))), [("z", [((0, 1), 0, 1)]), ("a", [((0, 1), 0, 8), ((0, 2), 0, 7)])])
        self.assertEqual(hall.do(("glass", (0, 1), 2)), [("z", [((0, 1), 1, 0)]), ("a", [((0, 1), 8, 7), ((0, 2), 7, 6)])])
        self.as_made_anew(hall)


class TestRefused(Checked):
    def test_no_deed(self):
        for deed in NO_DEEDS:
            with self.subTest(deed=deed):
                self.refused("NoDeed", deed)

    def test_no_colour_behind_no_deed_and_ahead_of_no_place(self):
        for colour in NO_COLOURS:
            for deed in (
                ("put", colour, (0, 1), 5), ("out", colour, (0, 0)), ("move", colour, (0, 0), (0, 1)), ("turn", colour, (0, 0), 5),
                ("put", colour, (9, 9), 0), ("out", colour, None), ("move", colour, None, None), ("turn", colour, (0, 1), None),
                ("put", colour, (1, 1), 5),
            ):
                with self.subTest(deed=deed):
                    self.refused("NoColour", deed)
                    self.refused("NoColour", list(deed))
            self.refused("NoDeed", ("put", colour, (0, 1)))
            self.refused("NoDeed", ("hang", colour, (0, 1), 5))

    def test_no_place(self):
        for place in NO_PLACES:
            for deed in (
                ("put", "red", place, 5), ("put", "red", place, 0), ("out", "b", place), ("move", "red", place, (0, 1)),
                ("move", "red", (0, 0), place), ("move", "green", (0, 0), place), ("turn", "red", place, 5),
                ("wall", place), ("open", place), ("glass", place, 2), ("glass", place, 1),
            ):
                with self.subTest(deed=deed):
                    self.refused("NoPlace", deed)

    def test_no_strength_and_no_loss(self):
        for strength in NO_STRENGTHS:
            with self.subTest(strength=strength):
                self.refused("NoStrength", ("put", "green", (0, 1), strength))
                self.refused("NoStrength", ("put", "red", (1, 1), strength))
                self.refused("NoStrength", ("turn", "red", (0, 0), strength))
                self.refused("NoStrength", ("turn", "green", (0, 0), strength))
        for loss in NO_GLASS:
            with self.subTest(loss=loss):
                self.refused("NoLoss", ("glass", (0, 1), loss))
                self.refused("NoLoss", ("glass", (1, 1), loss))

    def test_no_lamp_of_that_colour(self):
        for deed in (
            ("out", "green", (0, 0)), ("out", "b", (2, 3)), ("out", "red", (1, 1)), ("move", "green", (0, 0), (0, 1)),
            ("move", "b", (2, 3), (1, 1)), ("move", "b", (2, 3), (0, 0)), ("turn", "green", (0, 0), 5), ("turn", "b", (2, 3), 4),
        ):
            self.refused("NoLamp", deed)

    def test_walled_and_taken(self):
        for deed in (("put", "green", (1, 1), 5), ("move", "red", (0, 0), (1, 1)), ("glass", (1, 1), 2)):
            self.refused("Walled", deed)
        for deed in (
            ("put", "red", (0, 0), 5), ("put", "b", [0, 0], 5), ("move", "red", (0, 0), (2, 3)), ("move", "b", (0, 0), (0, 0)),
            ("wall", (1, 1)), ("wall", (0, 0)), ("wall", (2, 3)),
        ):
            self.refused("Taken", deed)


class TestRows(Checked):
    def test_of_no_deeds(self):
        hall = made()
        before = state(hall)
        self.assertEqual((hall.do_all([]), hall.do_all(())), ([], []))
        self.assertEqual(state(hall), before)

    def test_changes_from_the_beginning_to_the_end(self):
        hall = Hall(Floor([[1, 1]]), ["b", "a"])
        told = hall.do_all([
            ("put", "a", (0, 0), 3), ("put", "b", (0, 1), 1), ["turn", "a", [0, 0], 2], ("move", "b", (0, 1), [0, 0]),
        ])
        self.assertEqual(told, [("b", [((0, 0), 0, 1)]), ("a", [((0, 0), 0, 2), ((0, 1), 0, 1)])])
        self.assertEqual(hall.do_all([("out", "a", (0, 0)), ("put", "a", (0, 0), 2), ("wall", (0, 1)), ("open", (0, 1))]), [])
        self.assertEqual(hall.do_all([("out", "b", (0, 0)), ("wall", (0, 1)), ("open", (0, 1))]), [("b", [((0, 0), 1, 0)])])

    def test_stopped_by_what_an_earlier_deed_did(self):
        self.stopped(1, "Taken", [("put", "green", (0, 1), 5), ("wall", (0, 1))], made())
        self.stopped(1, "Walled", [("wall", (0, 1)), ("put", "b", (0, 1), 5)], made())
        self.stopped(2, "NoColour", [("wall", (0, 1)), ("out", "b", (0, 0)), ("out", "c", (0, 0))], made())
        self.stopped(1, "NoLamp", [("out", "b", (0, 0)), ("turn", "b", (0, 0), 5)], made())

    def test_after_a_stop_deeds_are_done_as_before(self):
        hall = made()
        self.stopped(1, "NoDeed", [("wall", (0, 1)), ("out", (0, 0))], hall)
        self.assertEqual(hall.do(("wall", (0, 1))), made().do(("wall", (0, 1))))

    def follow(self, draw, losses, colours, rows):
        hall = Hall(Floor(losses), colours)
        model = Model(losses, (), colours)
        for number in range(rows):
            self.one_row(draw, hall, model, draw.choice([1, 1, 2, 5, 8]))

    def one_row(self, draw, hall, model, many):
        before = {colour: hall.lights(colour) for colour in hall.colours()}
        deeds, why, ahead = drawn_row(draw, model, many)
        if why is not None:
            self.stopped(len(deeds) - 1, why, deeds, hall)
            return
        told = hall.do_all(deeds) if many > 1 or draw.random() < 0.5 else hall.do(deeds[0])
        model.losses, model.lamps = ahead.losses, ahead.lamps
        self.held_against(hall, model, before, told)

    def test_behind_each_of_many_rows_of_deeds(self):
        for seed in range(700, 712):
            draw = random.Random(seed)
            high, wide = draw.choice([(1, 1), (1, 6), (6, 1), (4, 4), (5, 5)])
            colours = draw.sample(["red", "b", "green", "z", "aa", "q", "abcdefgh", "m"], draw.choice([1, 2, 3, 8]))
            self.follow(draw, drawn_floor(draw, high, wide), colours, 40)

    def test_on_the_greatest_floor(self):
        self.follow(random.Random(720), winding(), ["b", "a"], 10)


class TestGlow(Checked):
    def test_glow_and_strongest_by_hand(self):
        hall = Hall(Floor([[1, 1, 1, 0, 1]]), ["c", "a", "b"])
        hall.do_all([("put", "a", (0, 0), 3), ("put", "b", (0, 2), 3), ("put", "c", (0, 1), 2)])
        self.assertEqual([hall.glow((0, column)) for column in range(5)], [
            [1, 3, 1], [2, 2, 2], [1, 1, 3], [0, 0, 0], [0, 0, 0],
        ])
        self.assertEqual([hall.strongest((0, column)) for column in range(5)], [["a"], ["c", "a", "b"], ["b"], [], []])
        hall.do(("out", "c", (0, 1)))
        self.assertEqual(hall.strongest([0, 1]), ["a", "b"])

    def test_everywhere(self):
        hall = made()
        for place in places_of(LOSSES):
            shone = [at(hall.lights(colour), place) for colour in COLOURS]
            self.assertEqual(hall.glow(place), shone)
            asked = [colour for colour, light in zip(COLOURS, shone) if light == max(shone) and light > 0]
            self.assertEqual(hall.strongest(place), asked)
            self.assertEqual(hall.glow(list(place)), shone)
            self.assertEqual((type(hall.glow(place)), type(hall.strongest(place))), (list, list))

    def test_sources_are_those_of_a_board_of_that_colour(self):
        hall = made()
        hall.do(("put", "green", (1, 2), 9))
        hall.do(("wall", (0, 2)))
        for colour in COLOURS:
            board = Board(hall.floor(), hall.lamps(colour))
            for place in places_of(LOSSES):
                self.assertEqual(hall.source(colour, place), board.source(place))
                self.assertEqual(hall.source(colour, list(place)), board.source(place))
        self.assertIsNone(hall.source("red", (1, 1)))


class TestNothingHeldOnTo(Checked):
    def test_colours_and_floor_handed_in_are_done_to_afterwards(self):
        losses = copy.deepcopy(LOSSES)
        colours = ["a", "b"]
        floor = Floor(losses)
        hall = Hall(floor, colours)
        losses[0].clear()
        colours.append("c")
        colours[0] = "z"
        self.assertEqual((hall.colours(), hall.floor().rows()), (["a", "b"], LOSSES))
        hall.do(("wall", (0, 1)))
        self.assertEqual((colours, floor.rows()), (["z", "b", "c"], LOSSES))

    def test_deeds_handed_in_are_done_to_afterwards(self):
        hall = made()
        deeds = [["put", "green", [0, 2], 7], ["move", "red", [2, 3], [2, 0]]]
        kept = copy.deepcopy(deeds)
        hall.do_all(deeds)
        self.assertEqual(deeds, kept)
        before = state(hall)
        deeds[0][2][0] = 1
        deeds[1][3].clear()
        deeds.clear()
        self.assertEqual(state(hall), before)
        self.as_made_anew(hall)

    def test_what_is_told_is_spoilt(self):
        hall = made()
        told = [hall.do(("put", "green", (0, 2), 7)), hall.do_all([("out", "red", (2, 3)), ("wall", (0, 1))])]
        before = copy.deepcopy(state(hall))
        for answer in (
            hall.colours(), hall.lamps("red"), hall.lights("red"), hall.lights("green"), hall.glow((0, 0)),
            hall.strongest((0, 0)), hall.floor().rows(), told,
        ):
            spoil(answer)
        self.assertEqual(state(hall), before)
        self.assertEqual((hall.glow((0, 0)), hall.strongest((0, 0))), ([6, 3, at(hall.lights("green"), (0, 0))], ["red"]))

    def test_what_was_told_stays_when_deeds_are_done(self):
        hall = made()
        told = hall.do(("turn", "red", (0, 0), 20))
        floor, rest = hall.floor(), state(hall)
        kept = copy.deepcopy((told, rest))
        hall.do_all([("wall", (0, 1)), ("out", "red", (0, 0)), ("out", "b", (0, 0)), ("glass", (0, 0), 9)])
        self.assertEqual(((told, rest), floor.rows()), (kept, LOSSES))

    def test_two_halls_have_nothing_to_do_with_one_another(self):
        floor = Floor(LOSSES)
        one, other = Hall(floor, COLOURS), Hall(floor, COLOURS)
        before = state(other)
        one.do_all([("put", "red", (0, 0), 5), ("wall", (0, 1)), ("open", (1, 1))])
        self.assertEqual(state(other), before)
        self.assertEqual(floor.rows(), LOSSES)
        self.assertEqual(state(Hall(floor, COLOURS)), before)


if __name__ == "__main__":
    unittest.main()
