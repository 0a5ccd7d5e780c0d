"""barscribe.errors: the classes that the interface lists."""

import unittest

from barscribe import errors
from tests.values import OTHERS

LISTED = """
BadMetre, BadPoint(point), BadNote, BadBook(index), BadState, TooMany(most), BadFamily, BadCount, BadOnset(index),
BadSlip, BadDepth, BadNumber, BadRhythm(index), BadRow, BadLoop, BadFigure(index), BadGroups, NoGrouping(obstacle),
BadVoice(index), BadTime, BadWheel, BadWord, BadName(name), NoPart(name), Taken(name), BadMoment(moment), BadSound,
BadBar(index), NothingDone, BadDeed(index), BadJournal(index), BadScore, BadText(line)
"""

NAMES = [item.strip().rstrip(")").partition("(")[::2] for item in LISTED.split(",")]


class ErrorsTest(unittest.TestCase):
    def test_the_base_is_a_value_error(self):
        self.assertTrue(issubclass(errors.RhythmError, ValueError))
        self.assertEqual(errors.RhythmError.__bases__, (ValueError,))

    def test_all_classes_are_there_and_no_other_error(self):
        found = sorted(name for name, thing in vars(errors).items() if isinstance(thing, type))
        self.assertEqual(found, sorted([name for name, _ in NAMES] + ["RhythmError"]))
        self.assertEqual(len(NAMES), 33)

    def test_each_is_a_direct_subclass_and_none_of_another(self):
        for name, _ in NAMES:
            self.assertEqual(getattr(errors, name).__bases__, (errors.RhythmError,), name)

    def test_each_class_is_defined_in_the_file(self):
        for name, _ in NAMES:
            self.assertEqual(getattr(errors, name).__module__, "barscribe.errors")

    def test_a_name_in_parentheses_is_held(self):
        for name, part in NAMES:
            if part:
                for value in OTHERS:
                    self.assertIs(getattr(getattr(errors, name)(value), part), value, name)
                    self.assertIs(getattr(getattr(errors, name)(**{part: value}), part), value, name)

    def test_a_name_in_parentheses_is_needed(self):
        for name, part in NAMES:
            if part:
                with self.assertRaises(TypeError, msg=name):
                    getattr(errors, name)()

    def test_the_others_are_made_from_a_message(self):
        for name, part in NAMES:
            if not part:
                self.assertEqual(str(getattr(errors, name)("what is wrong")), "what is wrong", name)

    def test_all_can_be_raised_and_caught(self):
        for name, _ in NAMES:
            with self.assertRaises(errors.RhythmError):
                raise getattr(errors, name)("anything")


if __name__ == "__main__":
    unittest.main()
