"""The errors of the interface."""

import unittest

import rulerchest.errors as errors
from rulerchest.towers import Tower

MESSAGE_NAMES = """NotTower NotNumber BadParts BadNumber NoQuotient NoRoot NotPoint EqualPoints BadRadius BadPoints
BadTurn BadDeed BadTable CannotLay BadChest BadWord BadDrawing BadTool BadNames BadSequel BadOrder BadProgram
BadQuestion BadGiven TooLong NoRoots BadReading BadCoefficients NotMaker BadShift BadForm BadPath BadCount BadValues
BadRows BadIndex BadMarks BadProduct NotInField NotAlike BadName NothingDone NotWork BadPlace""".split()

VALUE_NAMES = {
    "BadNumberText": "at", "NoName": "name", "Unlaid": "at", "NotAhead": "name", "Clash": "name", "Fault": "trail",
    "BadStepsText": "at", "BadProgramText": "at", "NoWays": "at", "BadBound": "part", "NotReal": "path",
    "BelowZero": "path", "Unworked": "at", "BadLine": "at", "OffLine": "name", "NoTool": "at", "OutOfReach": "word",
    "CannotCarry": "name", "Taken": "name", "OutOfField": "axis", "NotInChest": "tool", "Needed": "name",
    "BadJournal": "at",
}


class ErrorTests(unittest.TestCase):
    def test_each_stands_directly_below_the_one(self):
        self.assertEqual(errors.RulerError.__bases__, (ValueError,))
        for name in MESSAGE_NAMES + list(VALUE_NAMES):
            self.assertEqual(getattr(errors, name).__bases__, (errors.RulerError,), name)

    def test_messages(self):
        for name in MESSAGE_NAMES:
            self.assertEqual(str(getattr(errors, name)("what is wrong")), "what is wrong")

    def test_values(self):
        for name, attribute in VALUE_NAMES.items():
            for value in (None, 0, True, "a", (1, 2), [3], {"o": 1}, Tower()):
                error = getattr(errors, name)(value)
                self.assertIs(getattr(error, attribute), value)
                error = getattr(errors, name)(**{attribute: value})
                self.assertIs(getattr(error, attribute), value)

    def test_there_are_no_others(self):
        made = [name for name, value in vars(errors).items() if isinstance(value, type)]
        self.assertEqual(sorted(made), sorted(MESSAGE_NAMES + list(VALUE_NAMES) + ["RulerError"]))


if __name__ == "__main__":
    unittest.main()
