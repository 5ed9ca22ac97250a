"""Exact fractions, the numbers of this package."""

from math import gcd

from matrixforms.errors import InvalidNumber, NotARatio


def is_whole(value):
    """Tell whether a value is an integer."""
    # Python counts True and False among the integers, this package does not.
    return isinstance(value, int) and not isinstance(value, bool)


def is_number(value):
    """Tell whether a value is a number: an integer or a Ratio."""
    return is_whole(value) or isinstance(value, Ratio)


def to_ratio(number):
    """Return the Ratio that is this number."""
    if isinstance(number, Ratio):
        return number
    return Ratio(number)


def is_natural_text(text):
    """Tell whether a string is a decimal integer from 0 on without leading zeros."""
    # Only isdigit is not enough: it also takes digits that are none of 0 to 9.
    if not (text.isascii() and text.isdigit()):
        return False
    return text == "0" or not text.startswith("0")


class Ratio:
    """The fraction top / bottom, kept in lowest terms. It never changes."""

    def __init__(self, top, bottom=1):
        for given in (top, bottom):
            if not is_whole(given):
                raise InvalidNumber(given)
        if bottom == 0:
            raise InvalidNumber(bottom)
        shared = gcd(top, bottom)
        if bottom < 0:
            shared = -shared
        self._top = top // shared
        self._bottom = bottom // shared

    @property
    def top(self):
        """The integer above the line; it has the sign."""
        return self._top

    @property
    def bottom(self):
        """The integer below the line, at least 1."""
        return self._bottom

    @classmethod
    def read(cls, text):
        """Return the fraction with this text."""
        if not isinstance(text, str):
            raise NotARatio(text)
        above, line, below = text.removeprefix("-").partition("/")
        if not line:
            below = "1"
        if not (is_natural_text(above) and is_natural_text(below)) or below == "0":
            raise NotARatio(text)
        found = cls(int(above), int(below))
        if text.startswith("-"):
            found = -found
        # What is left to refuse: -0, a bottom of 1, and fractions not in lowest terms.
        if str(found) != text:
            raise NotARatio(text)
        return found

    def over(self, other):
        """Return the quotient of this number and another one that is not 0."""
        if not is_number(other):
            raise InvalidNumber(other)
        divisor = to_ratio(other)
        if divisor._top == 0:
            raise InvalidNumber(other)
        return Ratio(self._top * divisor._bottom, self._bottom * divisor._top)

    def __add__(self, other):
        if not is_number(other):
            return NotImplemented
        more = to_ratio(other)
        top = self._top * more._bottom + more._top * self._bottom
        return Ratio(top, self._bottom * more._bottom)

    def __sub__(self, other):
        if not is_number(other):
            return NotImplemented
        less = to_ratio(other)
        top = self._top * less._bottom - less._top * self._bottom
        return Ratio(top, self._bottom * less._bottom)

    def __mul__(self, other):
        if not is_number(other):
            return NotImplemented
        factor = to_ratio(other)
        return Ratio(self._top * factor._top, self._bottom * factor._bottom)

    def __neg__(self):
        return Ratio(-self._top, self._bottom)

    def __eq__(self, other):
        return isinstance(other, Ratio) and self._top == other._top and self._bottom == other._bottom

    def __bool__(self):
        return bool(self._top)

    def __str__(self):
        if self._bottom == 1:
            return str(self._top)
        return f"{self._top}/{self._bottom}"

    def __repr__(self):
        return f"Ratio({self._top}, {self._bottom})"
