"""The errors of this package.

Each class stands directly below one of the three bases, so that catching one
kind of failure never catches another one. Each only keeps what it is given:
this may be any values, so nothing is asked of them.
"""


class InputError(ValueError):
    """What was passed is not valid in itself."""


class InvalidNumber(InputError):
    """No number, no integer, or a divisor that is 0."""

    def __init__(self, given):
        self.given = given


class InvalidEntries(InputError):
    """No table of the entries of a matrix."""

    def __init__(self, given):
        self.given = given


class InvalidSize(InputError):
    """No size, no length, or no formulas at all."""

    def __init__(self, given):
        self.given = given


class InvalidName(InputError):
    """No letter name."""

    def __init__(self, given):
        self.given = given


class InvalidSide(InputError):
    """No side, or no size name."""

    def __init__(self, given):
        self.given = given


class InvalidSymmetry(InputError):
    """No symmetry, or not one that is possible here."""

    def __init__(self, given):
        self.given = given


class InvalidAbout(InputError):
    """No number that this letter can be about."""

    def __init__(self, given):
        self.given = given


class InvalidExponent(InputError):
    """No exponent of a power."""

    def __init__(self, given):
        self.given = given


class InvalidIndex(InputError):
    """No index, or no indexes, of what is there."""

    def __init__(self, given):
        self.given = given


class InvalidTable(InputError):
    """No table of formulas."""

    def __init__(self, given):
        self.given = given


class InvalidWord(InputError):
    """No word."""

    def __init__(self, given):
        self.given = given


class InvalidMapping(InputError):
    """No dict of the kind that is needed."""

    def __init__(self, given):
        self.given = given


class InvalidLetters(InputError):
    """No tuple of letters with different names."""

    def __init__(self, given):
        self.given = given


class InvalidText(InputError):
    """No string, or no text of what is to be read."""

    def __init__(self, given):
        self.given = given


class InvalidDeed(InputError):
    """No deed of a sheet."""

    def __init__(self, given):
        self.given = given


class InvalidLine(InputError):
    """No line for a console."""

    def __init__(self, given):
        self.given = given


class NotAMatrix(InputError):
    """No Matrix."""

    def __init__(self, given):
        self.given = given


class NotAFormula(InputError):
    """No Formula."""

    def __init__(self, given):
        self.given = given


class NotARatio(InputError):
    """No text of a fraction."""

    def __init__(self, given):
        self.given = given


class TextError(InputError):
    """The text of a formula is wrong at this index."""

    def __init__(self, place):
        self.place = place


class MeetError(LookupError):
    """Valid values that do not fit one another, or what is there."""


class Clash(MeetError):
    """Two unlike letters have this name."""

    def __init__(self, given):
        self.given = given


class Mismatch(MeetError):
    """Two sides, or two sizes, that should be equal are not."""

    def __init__(self, first, second):
        self.first = first
        self.second = second


class UnknownName(MeetError):
    """Nothing has this name."""

    def __init__(self, given):
        self.given = given


class Taken(MeetError):
    """Something else has this name."""

    def __init__(self, given):
        self.given = given


class NoSize(MeetError):
    """This size name has no size."""

    def __init__(self, given):
        self.given = given


class NoMatrix(MeetError):
    """The letter with this name has no matrix of its kind."""

    def __init__(self, given):
        self.given = given


class InUse(MeetError):
    """A definition with this name, or a claim (None), needs it."""

    def __init__(self, user):
        self.user = user


class Circular(MeetError):
    """The definition with this name would need itself."""

    def __init__(self, given):
        self.given = given


class NothingToUndo(MeetError):
    """The history is empty."""


class AnswerError(ArithmeticError):
    """There is no answer, or none within the limits."""


class Unanchored(AnswerError):
    """The formula with this text is not allowed to be inverted."""

    def __init__(self, spelled):
        self.spelled = spelled


class Singular(AnswerError):
    """The matrix has no inverse."""


class NoValue(AnswerError):
    """The formula has no value there."""


class TooLarge(AnswerError):
    """A formula would be larger than this limit."""

    def __init__(self, limit):
        self.limit = limit


class TooRich(AnswerError):
    """A rank is greater than this limit."""

    def __init__(self, limit):
        self.limit = limit


class NotSolvable(AnswerError):
    """The equation is not solved, and a word shows why."""

    def __init__(self, reason, shown):
        self.reason = reason
        self.shown = shown


class Broken(AnswerError):
    """The claim with this index would not hold, as a parting shows."""

    def __init__(self, claim, found):
        self.claim = claim
        self.found = found
