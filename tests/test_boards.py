"""Boards: their deeds, refusals, changes, rows of deeds and sources."""

import copy
import random
import unittest

from glowcells import errors
from glowcells.boards import Board
from glowcells.floors import Floor
from glowcells.lights import lights
from tests.reckoning import (
    GREATEST, NO_GLASS, NO_STRENGTHS, Model, at, beside, changes, drawn, drawn_row, no_places, places_of, slow_lights,
    spoil, winding,
)

LOSSES = [[1, 1, 1, 1], [1, 0, 5, 1], [1, 1, 1, 1]]
LAMPS = [((0, 0), 6), ((2, 3), 4)]
NO_PLACES = no_places(3, 4)
NO_DEEDS = [
    None, True, 0, 5, "", "put", "out", "wall", {}, {"wall": (0, 0)}, object(), (), [],
    (None,), (0,), (True, (0, 0)), ([], (0, 0)), ({}, (0, 0)), (("put",), (0, 0), 5), ("",), ("", (0, 0)),
    ("Put", (0, 1), 5), ("put ", (0, 1), 5), ("set", (0, 1), 5), ("close", (0, 1)), ("lamp", (0, 1)), ("walls", (0, 1)),
    ("put",), ("put", (0, 1)), ("put", (0, 1), 5, 5), ("put", "a", (0, 1), 5),
    ("out",), ("out", (0, 0), 6), ("out", "a", (0, 0)),
    ("move",), ("move", (0, 0)), ("move", (0, 0), (0, 1), (0, 2)), ("move", 0, 0, 0, 1),
    ("turn",), ("turn", (0, 0)), ("turn", (0, 0), 5, 5),
    ("wall",), ("wall", (0, 1), 1), ("wall", 0, 1), ("open",), ("open", (0, 1), 1), ("open", (0, 1), None),
    ("glass",), ("glass", (0, 1)), ("glass", (0, 1), 2, 2), ["put"], ["glass", [0, 1]],
]


def made():
    return Board(Floor(LOSSES), LAMPS)


def state(board):
    return board.floor().rows(), board.lamps(), board.lights()


class Checked(unittest.TestCase):
    def as_made_anew(self, board):
        self.assertEqual(board.lights(), lights(board.floor(), board.lamps()))
        self.assertEqual(board.lights(), slow_lights(board.floor().rows(), board.lamps()))

    def refused(self, name, deed, board=None):
        board = board or made()
        before = state(board)
        with self.assertRaises(getattr(errors, name)):
            board.do(deed)
        self.assertEqual(state(board), before)
        for deeds in ([deed], (deed,)):
            self.stopped(0, name, deeds, board)
        self.stopped(2, name, [("glass", (2, 0), 9), ("open", (2, 0)), deed, ("nothing",)], board)

    def stopped(self, number, name, deeds, board):
        before = state(board)
        with self.assertRaises(errors.Stopped) as caught:
            board.do_all(deeds)
        self.assertEqual((caught.exception.at, caught.exception.why), (number, name))
        self.assertIs(type(caught.exception.why), str)
        self.assertEqual(state(board), before)

    def done(self, deed, rows, lamps):
        for handed in (deed, [list(part) if type(part) is tuple else part for part in deed]):
            for in_row in (False, True):
                board = made()
                before = board.lights()
                kept = copy.deepcopy(handed)
                told = board.do_all([handed]) if in_row else board.do(handed)
                self.assertEqual(handed, kept)
                self.assertEqual(board.floor().rows(), rows)
                self.assertEqual(board.lamps(), lamps)
                self.as_made_anew(board)
                self.assertEqual(told, changes(before, board.lights()))
                self.kinds_told(told)

    def kinds_told(self, told):
        self.assertIs(type(told), list)
        for change in told:
            self.assertEqual((type(change), len(change), type(change[0])), (tuple, 3, tuple))


class TestMade(Checked):
    def test_what_it_tells(self):
        board = made()
        self.assertIsInstance(board.floor(), Floor)
        self.assertEqual(board.floor().rows(), LOSSES)
        self.assertEqual(board.lamps(), LAMPS)
        self.assertEqual(board.lights(), slow_lights(LOSSES, LAMPS))
        for place in places_of(LOSSES):
            self.assertEqual(board.light(place), at(board.lights(), place))
            self.assertEqual(board.light(list(place)), at(board.lights(), place))

    def test_without_lamps(self):
        for board in (Board(Floor(LOSSES)), Board(Floor(LOSSES), None), Board(Floor(LOSSES), []), Board(Floor(LOSSES), ())):
            self.assertEqual(state(board), (LOSSES, [], [[0] * 4] * 3))

    def test_lamps_in_order_and_as_tuples(self):
        for lamps in (LAMPS[::-1], tuple(LAMPS), [[[2, 3], 4], [(0, 0), 6]], ([[0, 0], 6], ((2, 3), 4))):
            told = Board(Floor(LOSSES), lamps).lamps()
            self.assertEqual(told, LAMPS)
            self.assertEqual([(type(lamp), type(lamp[0])) for lamp in told], [(tuple, tuple)] * 2)
        self.assertEqual(Board(Floor(LOSSES), lamps=LAMPS).lamps(), LAMPS)

    def test_refused_as_lamps_are(self):
        for name, lamps in (
            ("NoPlace", [((3, 0), 0)]), ("NoStrength", [((1, 1), 0)]), ("Walled", [((1, 1), 5)]),
            ("Taken", [((0, 0), 5), ((0, 0), 6)]), ("Taken", LAMPS + LAMPS[:1] + [(None, 5)]),
        ):
            self.assertRaises(getattr(errors, name), Board, Floor(LOSSES), lamps)

    def test_no_place(self):
        for place in NO_PLACES:
            with self.subTest(place=place):
                self.assertRaises(errors.NoPlace, made().light, place)
                self.assertRaises(errors.NoPlace, made().source, place)


class TestDeeds(Checked):
    def test_put(self):
        self.done(("put", (0, 3), 1), LOSSES, [((0, 0), 6), ((0, 3), 1), ((2, 3), 4)])
        self.done(("put", (1, 2), GREATEST), LOSSES, [((0, 0), 6), ((1, 2), GREATEST), ((2, 3), 4)])
        self.done(("put", (2, 0), 1), LOSSES, [((0, 0), 6), ((2, 0), 1), ((2, 3), 4)])

    def test_out(self):
        self.done(("out", (0, 0)), LOSSES, [((2, 3), 4)])
        self.done(("out", (2, 3)), LOSSES, [((0, 0), 6)])

    def test_move(self):
        self.done(("move", (0, 0), (2, 1)), LOSSES, [((2, 1), 6), ((2, 3), 4)])
        self.done(("move", (2, 3), (0, 1)), LOSSES, [((0, 0), 6), ((0, 1), 4)])
        self.done(("move", (2, 3), (1, 2)), LOSSES, [((0, 0), 6), ((1, 2), 4)])

    def test_turn(self):
        for strength in (1, 5, 7, 30, GREATEST):
            self.done(("turn", (0, 0), strength), LOSSES, [((0, 0), strength), ((2, 3), 4)])

    def test_wall(self):
        self.done(("wall", (0, 1)), [[1, 0, 1, 1], [1, 0, 5, 1], [1, 1, 1, 1]], LAMPS)
        self.done(("wall", (1, 2)), [[1, 1, 1, 1], [1, 0, 0, 1], [1, 1, 1, 1]], LAMPS)

    def test_open(self):
        self.done(("open", (1, 1)), [[1, 1, 1, 1], [1, 1, 5, 1], [1, 1, 1, 1]], LAMPS)
        self.done(("open", (1, 2)), [[1, 1, 1, 1], [1, 0, 1, 1], [1, 1, 1, 1]], LAMPS)

    def test_glass(self):
        self.done(("glass", (0, 1), 2), [[1, 2, 1, 1], [1, 0, 5, 1], [1, 1, 1, 1]], LAMPS)
        self.done(("glass", (1, 2), 3), [[1, 1, 1, 1], [1, 0, 3, 1], [1, 1, 1, 1]], LAMPS)
        self.done(("glass", (1, 2), GREATEST), [[1, 1, 1, 1], [1, 0, GREATEST, 1], [1, 1, 1, 1]], LAMPS)

    def test_under_a_lamp_the_floor_may_change_but_for_a_wall(self):
        self.done(("glass", (0, 0), 4), [[4, 1, 1, 1], [1, 0, 5, 1], [1, 1, 1, 1]], LAMPS)
        self.done(("open", (0, 0)), LOSSES, LAMPS)

    def test_what_changes_nothing_is_done_all_the_same(self):
        for deed in (("turn", (0, 0), 6), ("open", (0, 1)), ("open", (0, 0)), ("glass", (1, 2), 5)):
            self.done(deed, LOSSES, LAMPS)
            board = made()
            self.assertEqual((board.do(deed), board.do_all([deed, deed])), ([], []))
        board = Board(Floor([[1, 1]]), [((0, 0), 9)])
        self.assertEqual(board.do(("put", (0, 1), 8)), [])
        self.assertEqual(board.lamps(), [((0, 0), 9), ((0, 1), 8)])

    def test_changes_by_hand(self):
        board = Board(Floor([[1, 1, 1, 1]]))
        self.assertEqual(board.do(("put", (0, 1), 3)), [((0, 0), 0, 2), ((0, 1), 0, 3), ((0, 2), 0, 2), ((0, 3), 0, 1)])
        self.assertEqual(board.do(("wall", (0, 2))), [((0, 2), 2, 0), ((0, 3), 1, 0)])
        self.assertEqual(board.do(("open", (0, 2))), [((0, 2), 0, 2), ((0, 3), 0, 1)])
        self.assertEqual(board.do(("glass", (0, 2), 2)), [((0, 2), 2, 1), ((0, 3), 1, 0)])
        self.assertEqual(board.do(("turn", (0, 1), 4)), [
            ((0, 0), 2, 3), ((0, 1), 3, 4), ((0, 2), 1, 2), ((0, 3), 0, 1),
        ])
        self.assertEqual(board.do(("move", (0, 1), (0, 0))), [((0, 0), 3, 4), ((0, 1), 4, 3), ((0, 2), 2, 1), ((0, 3), 1, 0)])
        self.assertEqual(board.do(("out", [0, 0])), [((0, 0), 4, 0), ((0, 1), 3, 0), ((0, 2), 1, 0)])

    def test_a_strength_that_was_put_may_be_put_again(self):
        board = made()
        board.do(("out", (0, 0)))
        board.do(("put", (0, 0), 6))
        self.assertEqual(state(board), state(made()))

    def test_a_wall_where_a_lamp_was(self):
        board = made()
        board.do(("move", (0, 0), (0, 1)))
        board.do(("wall", (0, 0)))
        self.refused("Walled", ("move", (0, 1), (0, 0)), board)
        self.as_made_anew(board)


class TestRefused(Checked):
    def test_no_deed(self):
        for deed in NO_DEEDS:
            with self.subTest(deed=deed):
                self.refused("NoDeed", deed)

    def test_no_place(self):
        for place in NO_PLACES:
            for deed in (
                ("put", place, 5), ("out", place), ("move", place, (0, 1)), ("move", (0, 0), place), ("turn", place, 5),
                ("wall", place), ("open", place), ("glass", place, 2),
            ):
                with self.subTest(deed=deed):
                    self.refused("NoPlace", deed)
                    self.refused("NoPlace", list(deed))

    def test_no_strength(self):
        for strength in NO_STRENGTHS:
            with self.subTest(strength=strength):
                self.refused("NoStrength", ("put", (0, 1), strength))
                self.refused("NoStrength", ("turn", (0, 0), strength))

    def test_no_loss(self):
        for loss in NO_GLASS:
            with self.subTest(loss=loss):
                self.refused("NoLoss", ("glass", (0, 1), loss))

    def test_no_lamp(self):
        for place in ((0, 1), (1, 1), (1, 2), [0, 3]):
            self.refused("NoLamp", ("out", place))
            self.refused("NoLamp", ("move", place, (0, 2)))
            self.refused("NoLamp", ("turn", place, 5))

    def test_walled(self):
        self.refused("Walled", ("put", (1, 1), 5))
        self.refused("Walled", ("move", (0, 0), [1, 1]))
        self.refused("Walled", ("glass", (1, 1), 5))

    def test_taken(self):
        self.refused("Taken", ("put", (0, 0), 5))
        self.refused("Taken", ("put", [0, 0], 6))
        self.refused("Taken", ("move", (0, 0), (2, 3)))
        self.refused("Taken", ("move", (0, 0), (0, 0)))
        self.refused("Taken", ("move", (0, 0), [0, 0]))
        self.refused("Taken", ("wall", (1, 1)))
        self.refused("Taken", ("wall", (0, 0)))
        self.refused("Taken", ["wall", [2, 3]])

    def test_several_faults_at_once(self):
        for name, deed in (
            ("NoDeed", ("put", (9, 9))), ("NoDeed", ("out", (9, 9), 0)), ("NoDeed", ("hang", (9, 9), 0)),
            ("NoPlace", ("put", (9, 9), 0)), ("NoPlace", ("turn", None, None)), ("NoPlace", ("glass", (0, 4), 1)),
            ("NoPlace", ("move", (9, 9), None)), ("NoPlace", ("move", (0, 1), (9, 9))),
            ("NoPlace", ("move", (9, 9), (1, 1))),
            ("NoStrength", ("put", (1, 1), 0)), ("NoStrength", ("put", (0, 0), 0)), ("NoStrength", ("turn", (0, 1), 0)),
            ("NoStrength", ("turn", (1, 1), True)), ("NoLoss", ("glass", (1, 1), 1)), ("NoLoss", ("glass", (1, 1), None)),
            ("NoLamp", ("move", (0, 1), (1, 1))), ("NoLamp", ("move", (0, 1), (0, 0))), ("NoLamp", ("move", (0, 1), (0, 1))),
            ("NoLamp", ("move", (1, 1), (1, 1))),
        ):
            with self.subTest(deed=deed):
                self.refused(name, deed)


class TestRows(Checked):
    def test_of_no_deeds(self):
        board = made()
        before = state(board)
        self.assertEqual((board.do_all([]), board.do_all(())), ([], []))
        self.assertEqual(state(board), before)

    def test_changes_from_the_beginning_to_the_end(self):
        board = Board(Floor([[1, 1, 1]]), [((0, 0), 2)])
        self.assertEqual(board.do_all([("turn", (0, 0), 9), ("turn", (0, 0), 3)]), [
            ((0, 0), 2, 3), ((0, 1), 1, 2), ((0, 2), 0, 1),
        ])
        self.assertEqual(board.do_all([("out", (0, 0)), ("put", (0, 0), 3)]), [])
        self.assertEqual(board.do_all([("wall", (0, 1)), ("put", (0, 2), 1)]), [((0, 1), 2, 0)])

    def test_later_deeds_go_by_the_earlier_ones(self):
        board = made()
        board.do_all([("put", (0, 1), 5), ("move", (0, 1), (0, 2)), ("wall", (0, 1)), ("out", [0, 2]), ("open", (1, 1))])
        self.assertEqual(board.floor().rows(), [[1, 0, 1, 1], [1, 1, 5, 1], [1, 1, 1, 1]])
        self.assertEqual(board.lamps(), LAMPS)
        self.as_made_anew(board)

    def test_stopped_by_what_an_earlier_deed_did(self):
        self.stopped(1, "Taken", [("put", (0, 1), 5), ("put", (0, 1), 5)], made())
        self.stopped(1, "NoLamp", [("out", (0, 0)), ("out", (0, 0))], made())
        self.stopped(1, "Walled", [("wall", (0, 1)), ("put", (0, 1), 5)], made())
        self.stopped(1, "Taken", [("wall", (0, 1)), ("wall", (0, 1))], made())
        self.stopped(3, "Walled", [("open", (0, 1)), ("turn", (0, 0), 9), ("wall", (0, 1)), ("glass", (0, 1), 5)], made())
        self.stopped(1, "NoStrength", [("out", (0, 0)), ("turn", (0, 0), 0), ("put",)], made())

    def test_the_first_refused_deed_tells(self):
        self.stopped(0, "NoDeed", [("put",), ("put", (9, 9), 5)], made())
        self.stopped(1, "NoPlace", [("open", (0, 0)), ("put", (9, 9), 5), ("put",)], made())

    def test_sixty_deeds(self):
        deeds = [("put", (0, 1), 5), ("out", (0, 1))] * 29 + [("wall", (0, 1)), ("open", (0, 1))]
        board = made()
        self.assertEqual(board.do_all(deeds), [])
        self.assertEqual(state(board), state(made()))
        self.stopped(59, "NoLoss", deeds[:59] + [("glass", (0, 1), 1)], board)

    def test_after_a_stop_deeds_are_done_as_before(self):
        board = made()
        self.stopped(1, "NoLamp", [("wall", (0, 1)), ("out", (0, 1))], board)
        other = made()
        self.assertEqual(board.do(("wall", (0, 1))), other.do(("wall", (0, 1))))
        self.assertEqual(state(board), state(other))


class TestKeptRight(Checked):
    def follow(self, draw, losses, lamps, rows):
        board = Board(Floor(losses), lamps)
        model = Model(losses, lamps)
        for number in range(rows):
            many = draw.choice([1, 1, 1, 2, 3, 6])
            self.one_row(draw, board, model, many)
            self.assertEqual(board.floor().rows(), model.losses)
            self.assertEqual(board.lamps(), sorted(model.lamps[None].items()))
            self.assertEqual(board.lights(), model.lights())

    def one_row(self, draw, board, model, many):
        before = board.lights()
        deeds, why, ahead = drawn_row(draw, model, many)
        if why is not None:
            self.stopped(len(deeds) - 1, why, deeds, board)
            return
        told = board.do_all(deeds) if many > 1 or draw.random() < 0.5 else board.do(deeds[0])
        model.losses, model.lamps = ahead.losses, ahead.lamps
        self.assertEqual(told, changes(before, model.lights()))

    def test_behind_each_of_many_rows_of_deeds(self):
        for seed in range(600, 606):
            for draw, losses, lamps in drawn(seed):
                self.follow(draw, losses, lamps, 25)

    def test_on_the_greatest_floors(self):
        draw = random.Random(610)
        self.follow(draw, winding(), [((0, 0), 470), ((29, 29), 100)], 12)
        for draw, losses, lamps in drawn(611, ((30, 30),)):
            self.follow(draw, losses, lamps, 4)

    def test_a_long_way_cut_and_opened_again(self):
        board = Board(Floor(winding()), [((0, 0), 470)])
        told = board.do(("wall", (1, 29)))
        self.assertEqual((len(told), told[0], told[-1]), (435, ((1, 29), 440, 0), ((29, 29), 6, 0)))
        self.assertEqual(board.do(("open", (1, 29))), [(place, behind, before) for place, before, behind in told])
        self.assertEqual(board.lights(), slow_lights(winding(), [((0, 0), 470)]))


class TestSources(Checked):
    def check(self, losses, lamps):
        board = Board(Floor(losses), lamps)
        strengths = dict(lamps)
        rows = slow_lights(losses, lamps)
        for place in places_of(losses):
            light = at(rows, place)
            asked = [near for near in beside(losses, place) if at(rows, near) - at(losses, place) == light]
            if light == 0:
                asked = [None]
            elif strengths.get(place) == light:
                asked = [place]
            for handed in (place, list(place)):
                told = board.source(handed)
                self.assertEqual(told, asked[0])
                self.assertIn(type(told), (tuple, type(None)))
        self.lead_to_lamps(board, strengths, rows)

    def lead_to_lamps(self, board, strengths, rows):
        for place in places_of(rows):
            if at(rows, place) == 0:
                continue
            source = board.source(place)
            while source != place:
                self.assertGreater(at(rows, source), at(rows, place))
                place, source = source, board.source(source)
            self.assertEqual(strengths[place], at(rows, place))

    def test_drawn(self):
        for seed in range(620, 632):
            for draw, losses, lamps in drawn(seed):
                with self.subTest(losses=losses, lamps=lamps):
                    self.check(losses, lamps)

    def test_the_first_beside_in_order(self):
        floor = Floor([[1] * 3] * 3)
        self.assertEqual(Board(floor, [((0, 1), 5), ((1, 0), 5), ((1, 2), 5), ((2, 1), 5)]).source((1, 1)), (0, 1))
        self.assertEqual(Board(floor, [((1, 0), 5), ((1, 2), 5), ((2, 1), 5)]).source((1, 1)), (1, 0))
        self.assertEqual(Board(floor, [((1, 2), 5), ((2, 1), 5)]).source((1, 1)), (1, 2))
        self.assertEqual(Board(floor, [((2, 1), 5)]).source((1, 1)), (2, 1))
        self.assertEqual(Board(floor, [((0, 1), 4), ((2, 1), 5)]).source((1, 1)), (2, 1))

    def test_of_a_lamp_s_own_cell(self):
        floor = Floor([[1, 1, 2]])
        self.assertEqual(Board(floor, [((0, 0), 5), ((0, 1), 4)]).source((0, 1)), (0, 1))
        self.assertEqual(Board(floor, [((0, 0), 6), ((0, 1), 4)]).source((0, 1)), (0, 0))
        self.assertEqual(Board(floor, [((0, 0), 6), ((0, 1), 4)]).source((0, 2)), (0, 1))

    def test_of_dark_cells_and_of_walls(self):
        board = Board(Floor([[1, 0, 1], [1, 1, 1]]), [((0, 0), 2)])
        self.assertIsNone(board.source((0, 1)))
        self.assertIsNone(board.source((0, 2)))
        self.assertIsNone(board.source((1, 1)))
        self.assertEqual(board.source((1, 0)), (0, 0))

    def test_behind_deeds(self):
        board = made()
        board.do(("move", (0, 0), (0, 3)))
        self.assertEqual((board.source((0, 3)), board.source((0, 2)), board.source((0, 0))), ((0, 3), (0, 3), (0, 1)))
        board.do(("wall", (0, 2)))
        self.assertIsNone(board.source((0, 2)))
        self.check(winding(), [((0, 0), 470)])


class TestNothingHeldOnTo(Checked):
    def test_what_is_handed_in_is_done_to_afterwards(self):
        losses = copy.deepcopy(LOSSES)
        lamps = [[[0, 0], 6], [[2, 3], 4]]
        floor = Floor(losses)
        board = Board(floor, lamps)
        before = state(made())
        losses[0].clear()
        lamps[0][0][0] = 2
        lamps[1][1] = 50
        lamps.clear()
        self.assertEqual(state(board), before)
        board.do(("wall", (0, 1)))
        self.assertEqual(floor.rows(), LOSSES)

    def test_refused_deeds_stay_as_they_were(self):
        for deed in (["put", [0, 0], 5], ["move", [0, 0], [1, 1]], ["glass", [0, 1], 1], ["out"], []):
            kept = copy.deepcopy(deed)
            self.assertRaises(errors.GlowError, made().do, deed)
            self.assertRaises(errors.Stopped, made().do_all, [deed])
            self.assertEqual(deed, kept)

    def test_deeds_handed_in_are_done_to_afterwards(self):
        board = made()
        other = made()
        deeds = [["put", [0, 2], 7], ["move", [2, 3], [2, 0]]]
        kept = copy.deepcopy(deeds)
        board.do_all(deeds)
        self.assertEqual(deeds, kept)
        for deed in kept:
            other.do(deed)
        deeds[0][1][0] = 1
        deeds[1][2][0] = 0
        deeds[0][2] = 8
        self.assertEqual(state(board), state(other))
        self.assertEqual(board.lamps(), [((0, 0), 6), ((0, 2), 7), ((2, 0), 4)])

    def test_what_is_told_is_spoilt(self):
        board = made()
        told = [board.do(("put", (0, 2), 7)), board.do_all([("out", (2, 3))])]
        before = state(board)
        kept = copy.deepcopy((before, told))
        for answer in (board.lamps(), board.lights(), board.floor().rows(), board.floor().beside((0, 0)), told):
            spoil(answer)
        self.assertEqual(state(board), before)
        self.assertEqual(board.light((0, 2)), 7)
        board.do(("out", (0, 2)))
        self.assertEqual(before, kept[0])
        self.as_made_anew(board)

    def test_what_was_told_stays_when_deeds_are_done(self):
        board = made()
        floor, lamps, rows = board.floor(), board.lamps(), board.lights()
        told = board.do(("turn", (0, 0), 20))
        kept = copy.deepcopy(told)
        board.do_all([("wall", (0, 1)), ("out", (0, 0)), ("glass", (0, 0), 9)])
        self.assertEqual((floor.rows(), lamps, rows), (LOSSES, LAMPS, slow_lights(LOSSES, LAMPS)))
        self.assertEqual(told, kept)

    def test_two_boards_have_nothing_to_do_with_one_another(self):
        floor = Floor(LOSSES)
        lamps = list(LAMPS)
        one, other = Board(floor, lamps), Board(floor, lamps)
        before = state(other)
        one.do_all([("out", (0, 0)), ("wall", (0, 1)), ("open", (1, 1)), ("turn", (2, 3), 60)])
        self.assertEqual(state(other), before)
        self.assertEqual((lamps, floor.rows()), (LAMPS, LOSSES))
        one, other = Board(floor), Board(floor)
        one.do(("put", (0, 0), 5))
        self.assertEqual((other.lamps(), Board(floor).lamps()), ([], []))

    def test_the_same_asked_again(self):
        board = made()
        for place in places_of(LOSSES):
            self.assertEqual(board.source(place), board.source(place))
        self.assertEqual(state(board), state(board))


if __name__ == "__main__":
    unittest.main()
