"""The refusals: their classes, what they stand under, their fields."""

import copy
import unittest

from glowcells import errors

PLAIN = [
    "NoFloor", "NoLoss", "NoPlace", "NoStrength", "Walled", "Taken",
    "NoLights", "NoDeed", "NoLamp", "NoColour", "NoWay", "NoCut",
]
ALL = PLAIN + ["NoText", "Stopped"]


def made(name):
    refusal = getattr(errors, name)
    if name == "NoText":
        return refusal(3)
    if name == "Stopped":
        return refusal(2, "NoLamp")
    return refusal()


class TestClasses(unittest.TestCase):
    def test_the_base_stands_straight_under_value_error(self):
        self.assertEqual(errors.GlowError.__bases__, (ValueError,))

    def test_all_fourteen_stand_straight_under_the_base(self):
        self.assertEqual(len(ALL), 14)
        for name in ALL:
            with self.subTest(name):
                self.assertEqual(getattr(errors, name).__bases__, (errors.GlowError,))
                self.assertEqual(getattr(errors, name).__name__, name)

    def test_there_is_no_other_refusal(self):
        under = sorted(refusal.__name__ for refusal in errors.GlowError.__subclasses__())
        self.assertEqual(under, sorted(ALL))

    def test_each_is_of_its_own_class_and_of_none_of_the_others(self):
        for name in ALL:
            refusal = made(name)
            self.assertIsInstance(refusal, errors.GlowError)
            self.assertIsInstance(refusal, ValueError)
            for other in ALL:
                with self.subTest(name=name, other=other):
                    self.assertEqual(isinstance(refusal, getattr(errors, other)), name == other)

    def test_each_can_be_raised_and_taken_by_its_own_name(self):
        for name in ALL:
            with self.subTest(name), self.assertRaises(getattr(errors, name)):
                raise made(name)


class TestFields(unittest.TestCase):
    def test_the_plain_ones_are_made_of_nothing_or_of_a_text(self):
        for name in PLAIN + ["GlowError"]:
            with self.subTest(name):
                self.assertEqual(str(getattr(errors, name)()), "")
                self.assertEqual(str(getattr(errors, name)("some words")), "some words")

    def test_no_text_has_its_line(self):
        for line in (0, 1, 30):
            self.assertEqual(errors.NoText(line).line, line)
        self.assertEqual(errors.NoText(line=7).line, 7)

    def test_stopped_has_at_and_why(self):
        stopped = errors.Stopped(4, "NoDeed")
        self.assertEqual((stopped.at, stopped.why), (4, "NoDeed"))
        stopped = errors.Stopped(at=0, why="Taken")
        self.assertEqual((stopped.at, stopped.why), (0, "Taken"))

    def test_fields_are_asked_for(self):
        for refusal, given in ((errors.NoText, ()), (errors.Stopped, ()), (errors.Stopped, (1,))):
            with self.subTest(refusal.__name__, given=given), self.assertRaises(TypeError):
                refusal(*given)

    def test_two_refusals_have_nothing_to_do_with_one_another(self):
        first = errors.NoText(1)
        errors.NoText(2)
        self.assertEqual(first.line, 1)

    def test_copies_keep_the_fields(self):
        self.assertEqual(copy.copy(errors.NoText(5)).line, 5)
        copied = copy.copy(errors.Stopped(6, "Walled"))
        self.assertEqual((copied.at, copied.why), (6, "Walled"))


if __name__ == "__main__":
    unittest.main()
