"""Values that tests pass where something else is needed."""

from fractions import Fraction


class Stubborn:
    """An object that refuses everything that could be asked of it."""

    def refuse(self, *rest):
        raise RuntimeError("this object was asked something")

    __eq__ = __ne__ = __lt__ = __gt__ = __bool__ = __len__ = __hash__ = refuse
    __str__ = __repr__ = __iter__ = __getitem__ = __contains__ = refuse
    __int__ = __index__ = __neg__ = __add__ = __radd__ = __mul__ = __rmul__ = refuse


class Agreeing:
    """An object that claims to equal everything."""

    def __eq__(self, other):
        return True

    def __ne__(self, other):
        return False


def nested(levels):
    """A list within a list and so on."""
    found = []
    for _ in range(levels - 1):
        found = [found]
    return found


# None of these is an integer, a Ratio or a string.
ODD_VALUES = (
    None, True, False, (), (1,), (1, 2), [], [1], {}, {1: 2}, {1, 2}, frozenset(), b"", b"1",
    1j, Fraction(1, 2), range(3), int, len, object(), Stubborn(), Agreeing(),
    ValueError("no"), nested(20), (True, (False, [None])),
)

TEXTS = ("", "0", "1", "-1", "1/2", "x", " ", "True", "Ratio(1, 2)", "\n", "\u00e9", "\u0661", "\U0001d7cf", "\ud800")

NO_INTEGERS = ODD_VALUES + TEXTS
