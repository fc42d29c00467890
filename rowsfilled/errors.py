"""The errors of the package, each directly below FillError."""


class FillError(ValueError):
    """What every error of this package is."""


class Apart(FillError):
    """Two places that differ by no multiple of what is told."""


class BadBasis(FillError):
    """A value that is no basis of the row."""


class BadColumn(FillError):
    """A value that is no solution of the row."""


class BadComing(FillError):
    """A value that is no coming of the row."""


class BadFold(FillError):
    """A value that is no fold."""


class BadForm(FillError):
    """A value that is no form."""


class BadGoals(FillError):
    """A value that is no tuple of goals of the strip."""


class BadGrid(FillError):
    """A value that is no grid."""


class BadLetter(FillError):
    """A value that is no letter."""


class BadMixing(FillError):
    """A value that is no mixing of the row."""


class BadModulus(FillError):
    """A value that is no modulus."""


class BadNumber(FillError):
    """A value that is no number of those that may stand here."""


class BadOther(FillError):
    """A step that does not go on where the one before it ends."""


class BadPair(FillError):
    """Two values that are no different indexes of a table."""


class BadPlace(FillError):
    """A value that is no place."""


class BadPoly(FillError):
    """A value that is no poly of those that may stand here."""


class BadPolys(FillError):
    """A value that is no list of polys, or one of nothing but ()."""


class BadPower(FillError):
    """A value that is no power."""


class BadPrime(FillError):
    """A value that is none of the primes 2, 3, 5 and 7."""


class BadRow(FillError):
    """A value that is no row of those that may stand here."""


class BadSize(FillError):
    """A value that is no size of a table."""


class BadStep(FillError):
    """A value that is no step of those that may stand here."""


class BadSteps(FillError):
    """A value that is no list of steps."""


class BadStrip(FillError):
    """A value that is no strip of those that may stand here."""


class BadTable(FillError):
    """A value that is no table of those that may stand here."""


class BadTelling(FillError):
    """A value that is no telling of the two polys."""


class BadText(FillError):
    """A text that cannot be read."""

    def __init__(self, at):
        # The words leave the attribute out: it may be any value, also one too wide to be written.
        FillError.__init__(self, "a text that cannot be read")
        self.at = at


class BadTurn(FillError):
    """A value that is no turn."""


class Lost(FillError):
    """A row that does not come to 1."""


class NoLetter(FillError):
    """Two polys in which no y stands."""


class NotOnes(FillError):
    """A strip whose minors do not come to 1."""


class NotPlain(FillError):
    """A row whose first entry is not plain."""


class NotSolved(FillError):
    """A row that does not solve the strip."""


class NotWhole(FillError):
    """A table whose determinant is 0 or no number."""


class TooMany(FillError):
    """More than the told limit."""

    def __init__(self, most):
        FillError.__init__(self, "more than the told limit")
        self.most = most
