"""Every error of the package: each keeps what it is made with, and is right beneath PostError."""


class PostError(ValueError):
    """What all errors of the package are."""


class BadBegun(PostError):
    def __init__(self, index):
        self.index = index


class BadBox(PostError):
    def __init__(self, thing):
        self.thing = thing


class BadBoxes(PostError):
    def __init__(self, thing):
        self.thing = thing


class BadCaps(PostError):
    def __init__(self, thing):
        self.thing = thing


class BadCounts(PostError):
    def __init__(self, thing):
        self.thing = thing


class BadCrossings(PostError):
    def __init__(self, thing):
        self.thing = thing


class BadDeed(PostError):
    def __init__(self, thing):
        self.thing = thing


class BadEnds(PostError):
    def __init__(self, thing):
        self.thing = thing


class BadFlows(PostError):
    def __init__(self, thing):
        self.thing = thing


class BadGiven(PostError):
    def __init__(self, thing):
        self.thing = thing


class BadHouses(PostError):
    def __init__(self, index):
        self.index = index


class BadIndex(PostError):
    def __init__(self, thing):
        self.thing = thing


class BadLedger(PostError):
    def __init__(self, thing):
        self.thing = thing


class BadLengths(PostError):
    def __init__(self, thing):
        self.thing = thing


class BadLetters(PostError):
    def __init__(self, thing):
        self.thing = thing


class BadLot(PostError):
    def __init__(self, index):
        self.index = index


class BadMembers(PostError):
    def __init__(self, index):
        self.index = index


class BadName(PostError):
    def __init__(self, thing):
        self.thing = thing


class BadNames(PostError):
    def __init__(self, thing):
        self.thing = thing


class BadNumber(PostError):
    def __init__(self, thing):
        self.thing = thing


class BadNumbers(PostError):
    def __init__(self, index):
        self.index = index


class BadPair(PostError):
    def __init__(self, thing):
        self.thing = thing


class BadPairing(PostError):
    def __init__(self, thing):
        self.thing = thing


class BadPairs(PostError):
    def __init__(self, index):
        self.index = index


class BadPasses(PostError):
    def __init__(self, thing):
        self.thing = thing


class BadPath(PostError):
    def __init__(self, thing):
        self.thing = thing


class BadPathCounts(PostError):
    def __init__(self, thing):
        self.thing = thing


class BadPaths(PostError):
    def __init__(self, index):
        self.index = index


class BadPicker(PostError):
    def __init__(self, thing):
        self.thing = thing


class BadQuestion(PostError):
    def __init__(self, thing):
        self.thing = thing


class BadReturns(PostError):
    def __init__(self, thing):
        self.thing = thing


class BadRings(PostError):
    def __init__(self, thing):
        self.thing = thing


class BadRound(PostError):
    def __init__(self, index):
        self.index = index


class BadRow(PostError):
    def __init__(self, index):
        self.index = index


class BadRuns(PostError):
    def __init__(self, index):
        self.index = index


class BadSome(PostError):
    def __init__(self, index):
        self.index = index


class BadSpans(PostError):
    def __init__(self, thing):
        self.thing = thing


class BadSpread(PostError):
    def __init__(self, thing):
        self.thing = thing


class BadSteps(PostError):
    def __init__(self, thing):
        self.thing = thing


class BadTellers(PostError):
    def __init__(self, index):
        self.index = index


class BadText(PostError):
    def __init__(self, line):
        self.line = line


class BadTold(PostError):
    def __init__(self, thing):
        self.thing = thing


class BadTolls(PostError):
    def __init__(self, thing):
        self.thing = thing


class BadWeave(PostError):
    def __init__(self, thing):
        self.thing = thing


class CommonHouse(PostError):
    def __init__(self, name):
        self.name = name


class HasLetters(PostError):
    def __init__(self, name):
        self.name = name


class InUse(PostError):
    def __init__(self, question):
        self.question = question


class IsOut(PostError):
    def __init__(self, house):
        self.house = house


class IsWatched(PostError):
    def __init__(self, thing):
        self.thing = thing


class LostNow(PostError):
    """What is begun cannot go on."""


class NoCount(PostError):
    def __init__(self, thing):
        self.thing = thing


class NoEnd(PostError):
    def __init__(self, thing):
        self.thing = thing


class NoEnds(PostError):
    def __init__(self, house):
        self.house = house


class NoErrands(PostError):
    def __init__(self, paper):
        self.paper = paper


class NoHouse(PostError):
    def __init__(self, thing):
        self.thing = thing


class NoLetter(PostError):
    def __init__(self, house):
        self.house = house


class NoPath(PostError):
    def __init__(self, one, other):
        self.one = one
        self.other = other


class NoRound(PostError):
    def __init__(self, paper):
        self.paper = paper


class NoSign(PostError):
    def __init__(self, thing):
        self.thing = thing


class NoWeave(PostError):
    """No weave has the counts."""


class NotCarried(PostError):
    def __init__(self, thing):
        self.thing = thing


class NotJoined(PostError):
    def __init__(self, house):
        self.house = house


class NotLeaf(PostError):
    def __init__(self, name):
        self.name = name


class NotOut(PostError):
    """No postman is out."""


class NotPossible(PostError):
    """Nothing is as it is asked to be."""


class NotWatched(PostError):
    def __init__(self, thing):
        self.thing = thing


class SameHouse(PostError):
    def __init__(self, thing):
        self.thing = thing


class SameSign(PostError):
    def __init__(self, thing):
        self.thing = thing


class TakenHouse(PostError):
    def __init__(self, name):
        self.name = name


class TooMany(PostError):
    def __init__(self, number):
        self.number = number


class WasGone(PostError):
    def __init__(self, name):
        self.name = name


class WouldChange(PostError):
    def __init__(self, question):
        self.question = question
