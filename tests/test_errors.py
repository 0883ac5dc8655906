"""The error classes of truetouch.errors."""

import re
import unittest

from truetouch import errors

TOLD = """BadStage(stage) BadRow(row) BadChange(change) BadLead(number) BadCall(number) BadLetter(letter)
BadCalling(number) BadText(at) BadLine(line,word) BadMenu(number) BadBell(bell) BadPlace(place) BadPlaces(places)
BadTimes(times) BadHeard(number) BadEntry(number) BadTable(number) BadSheet(number) BadStatement(number)
BadValue(name) BadSlip(number) BadKind(word) BadRung(number) BadSlips(slips) BadDelay(delay) BadHears(number)
BadMost(most) BadRule(number) BadFee(number) BadMany(many) BadName(name) TooMany(word) TooLong(number)
TooHeavy(number) Twice(name) Unknown(name) Unlike(word) Unreached(row) NoSpot(spot) NoStanding(standing) NoMend(row)
NoValue(row) HasVariable(name) InUse(name) Torn(line)"""


class Errors(unittest.TestCase):

    def test_all_classes_keep_what_they_are_made_with(self):
        for told in TOLD.split():
            name, names = re.fullmatch(r"(\w+)\((.*)\)", told).groups()
            names = names.split(",")
            kind = getattr(errors, name)
            self.assertEqual(kind.__bases__, (errors.TouchError,))
            things = [["thing", place] for place in range(len(names))]
            error = kind(*things)
            for attribute, thing in zip(names, things):
                self.assertIs(getattr(error, attribute), thing)
            self.assertEqual(vars(kind(**dict(zip(names, things)))), dict(zip(names, things)))
            self.assertIsInstance(str(error), str)

    def test_base(self):
        self.assertEqual(errors.TouchError.__bases__, (ValueError,))

    def test_no_others(self):
        found = {name for name in vars(errors) if isinstance(getattr(errors, name), type)}
        self.assertEqual(found, {told.split("(")[0] for told in TOLD.split()} | {"TouchError"})


if __name__ == "__main__":
    unittest.main()
