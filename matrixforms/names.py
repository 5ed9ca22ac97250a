"""Size names, letter names, sides and indexes."""

from matrixforms.errors import InvalidSide
from matrixforms.limits import MOST_SIDE
from matrixforms.ratios import is_whole

LONGEST_NAME = 6


def is_size_name(given):
    """Tell whether a value is a string of one to six letters from a to z."""
    if not (isinstance(given, str) and len(given) <= LONGEST_NAME):
        return False
    return given.isascii() and given.isalpha() and given.islower()


def is_letter_name(given):
    """Tell whether a value is a letter from A to Z and up to five letters from a to z or digits."""
    if not (isinstance(given, str) and given.isascii() and given.isalnum() and len(given) <= LONGEST_NAME):
        return False
    return given[0].isupper() and given[1:] == given[1:].lower()


def is_index(given, count):
    """Tell whether a value is an index of something with so many members."""
    return is_whole(given) and 0 <= given < count


def to_side(given):
    """Return the side that was passed; a size name stands for the side with this name alone."""
    if is_size_name(given):
        return (given,)
    if not (isinstance(given, tuple) and 1 <= len(given) <= MOST_SIDE):
        raise InvalidSide(given)
    if not all([is_size_name(name) for name in given]):
        raise InvalidSide(given)
    return tuple(given)
