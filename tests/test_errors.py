"""[4]: the errors."""

import unittest

from letterround import errors

NAMES = {
    "index": "BadBegun BadHouses BadLot BadMembers BadNumbers BadPairs BadPaths BadRound BadRow BadRuns BadSome "
             "BadTellers",
    "thing": "BadBox BadBoxes BadCaps BadCounts BadCrossings BadDeed BadEnds BadFlows BadGiven BadIndex BadLedger "
             "BadLengths BadLetters BadName BadNames BadNumber BadPair BadPairing BadPasses BadPath BadPathCounts "
             "BadPicker BadQuestion BadReturns BadRings BadSpans BadSpread BadSteps BadTold BadTolls BadWeave "
             "IsWatched NoCount NoEnd NoHouse NoSign NotCarried NotWatched SameHouse SameSign",
    "line": "BadText",
    "name": "CommonHouse HasLetters NotLeaf TakenHouse WasGone",
    "question": "InUse WouldChange",
    "house": "IsOut NoEnds NoLetter NotJoined",
    "paper": "NoErrands NoRound",
    "number": "TooMany",
    "one other": "NoPath",
    "": "LostNow NoWeave NotOut NotPossible",
}


class Errors(unittest.TestCase):
    def test_each_is_right_beneath_post_error_and_keeps_what_it_is_made_with(self):
        for params, names in NAMES.items():
            for name in names.split():
                made = getattr(errors, name)
                self.assertEqual(made.__bases__, (errors.PostError,), name)
                self.assertEqual(made.__module__, "letterround.errors")
                things = [[name, {}], {"x": [1]}][:len(params.split())]
                self.assertEqual(len(things), len(params.split()))
                for error in (made(*things), made(**dict(zip(params.split(), things)))):
                    self.assertEqual(sorted(vars(error)), sorted(params.split()))
                    for param, thing in zip(params.split(), things):
                        self.assertIs(getattr(error, param), thing)

    def test_all_are_there_and_no_two_are_one(self):
        names = [name for row in NAMES.values() for name in row.split()]
        self.assertEqual(len(set(names)), 72)
        there = [name for name in vars(errors) if isinstance(getattr(errors, name), type)]
        self.assertEqual(sorted(there), sorted(names + ["PostError"]))
        self.assertEqual(len({getattr(errors, name) for name in names}), 72)

    def test_post_error_is_a_value_error_and_can_be_made(self):
        self.assertEqual(errors.PostError.__bases__, (ValueError,))
        self.assertIsInstance(errors.PostError(), ValueError)
        with self.assertRaises(errors.PostError):
            raise errors.NoHouse("a")


if __name__ == "__main__":
    unittest.main()
