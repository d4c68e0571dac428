"""The errors of the package, all under SteamError.

The messages name no value: a value may be too long to be written out.
"""


class SteamError(ValueError):
    """The base class of all errors of the package; it is made as ValueError is."""


class InvalidForm(SteamError):
    def __init__(self, given):
        super().__init__("a form is 1, 2 or 3")
        self.given = given


class InvalidVector(SteamError):
    def __init__(self, given):
        super().__init__("a vector is a pair of whole numbers")
        self.given = given


class InvalidNumber(SteamError):
    def __init__(self, given):
        super().__init__("a whole number is meant here")
        self.given = given


class InvalidRatio(SteamError):
    def __init__(self, given):
        super().__init__("no ratio as it is meant here")
        self.given = given


class InvalidAngle(SteamError):
    def __init__(self, given):
        super().__init__("an angle is (form, a, b, l), the last three reduced, l * l below the norm")
        self.given = given


class InvalidWay(SteamError):
    def __init__(self, given):
        super().__init__("a way is a reduced pair of whole numbers, not both 0")
        self.given = given


class InvalidTurn(SteamError):
    def __init__(self, given):
        super().__init__("a turn is a reduced pair (p, q), p above 0, or (0, 1)")
        self.given = given


class InvalidRegion(SteamError):
    def __init__(self, given):
        super().__init__("a region is a pair of a form and a tree")
        self.given = given


class InvalidValve(SteamError):
    def __init__(self, given):
        super().__init__("a valve is (form, eccentric, laps, port), its seven numbers reduced")
        self.given = given


class InvalidLaps(SteamError):
    def __init__(self, given):
        super().__init__("laps are a tuple of four whole numbers")
        self.given = given


class InvalidPort(SteamError):
    def __init__(self, given):
        super().__init__("a port is a whole number above 0")
        self.given = given


class InvalidEnd(SteamError):
    def __init__(self, given):
        super().__init__("an end is 'head' or 'crank'")
        self.given = given


class InvalidWord(SteamError):
    def __init__(self, given):
        super().__init__("no word that is meant here")
        self.given = given


class InvalidRod(SteamError):
    def __init__(self, given):
        super().__init__("a rod is None or a ratio above 1")
        self.given = given


class InvalidShare(SteamError):
    def __init__(self, given):
        super().__init__("a share is a ratio above 0 and below 1")
        self.given = given


class InvalidStroke(SteamError):
    def __init__(self, given):
        super().__init__("a stroke is 'out' or 'back'")
        self.given = given


class InvalidPolynomial(SteamError):
    def __init__(self, given):
        super().__init__("a polynomial is a tuple of whole numbers, the last one not 0")
        self.given = given


class InvalidPoint(SteamError):
    def __init__(self, given):
        super().__init__("a point is a ratio or a knot")
        self.given = given


class InvalidLink(SteamError):
    def __init__(self, given):
        super().__init__("a link is (form, P, Q, S, laps, port), its eleven numbers reduced")
        self.given = given


class InvalidNotch(SteamError):
    def __init__(self, given):
        super().__init__("a notch is a ratio from -1 to 1")
        self.given = given


class InvalidLot(SteamError):
    def __init__(self, given):
        super().__init__("a lot is a tuple of ascending stretches")
        self.given = given


class InvalidEngine(SteamError):
    def __init__(self, given):
        super().__init__("an engine is a pair of a form and one to four cylinders")
        self.given = given


class InvalidSense(SteamError):
    def __init__(self, given):
        super().__init__("a sense is 1 or -1")
        self.given = given


class InvalidGeared(SteamError):
    def __init__(self, given):
        super().__init__("a geared engine is a pair of a form and one or two cylinders with links")
        self.given = given


class InvalidWrong(SteamError):
    def __init__(self, given):
        super().__init__("no wrong of a valve")
        self.given = given


class InvalidLook(SteamError):
    def __init__(self, given):
        super().__init__("no look of the valve's form")
        self.given = given


class InvalidThing(SteamError):
    def __init__(self, given):
        super().__init__("neither a valve nor an engine")
        self.given = given


class InvalidName(SteamError):
    def __init__(self, given):
        super().__init__("a name has 1 to 12 letters from a to z")
        self.given = given


class InvalidWish(SteamError):
    def __init__(self, given):
        super().__init__("no wish")
        self.given = given


class InvalidIndex(SteamError):
    def __init__(self, given):
        super().__init__("no index of a wish")
        self.given = given


class InvalidPhrase(SteamError):
    def __init__(self, given):
        super().__init__("no phrase of a console")
        self.given = given


class Unlike(SteamError):
    def __init__(self, given):
        super().__init__("it has another form than what stands before it")
        self.given = given


class Same(SteamError):
    def __init__(self, given):
        super().__init__("both are one number")
        self.given = given


class UnknownName(SteamError):
    def __init__(self, given):
        super().__init__("nothing has this name here")
        self.given = given


class NotAWorkshop(SteamError):
    def __init__(self, given):
        super().__init__("no workshop")
        self.given = given


class InvalidSightings(SteamError):
    def __init__(self, index):
        super().__init__("no tuple of one to eight sightings")
        self.index = index


class InvalidWrongs(SteamError):
    def __init__(self, index):
        super().__init__("no tuple of one to six wrongs")
        self.index = index


class InvalidLooks(SteamError):
    def __init__(self, index):
        super().__init__("no tuple of looks")
        self.index = index


class InvalidFindings(SteamError):
    def __init__(self, index):
        super().__init__("no tuple of findings")
        self.index = index


class InUse(SteamError):
    def __init__(self, index):
        super().__init__("a wish names it")
        self.index = index


class Broken(SteamError):
    def __init__(self, index):
        super().__init__("a wish would not hold")
        self.index = index


class NoAngle(SteamError):
    def __init__(self):
        super().__init__()


class NoFit(SteamError):
    def __init__(self):
        super().__init__()


class Nought(SteamError):
    def __init__(self):
        super().__init__()


class NothingToUndo(SteamError):
    def __init__(self):
        super().__init__()
