"""Symbols and words."""

from matrixforms.errors import InvalidWord


def is_symbol(given):
    """Tell whether a value is a pair of a string and a truth value."""
    if not (isinstance(given, tuple) and len(given) == 2):
        return False
    return isinstance(given[0], str) and isinstance(given[1], bool)


def check_word(word):
    """Raise InvalidWord if a value is no tuple of pairs of a string and a truth value."""
    if not (isinstance(word, tuple) and all([is_symbol(symbol) for symbol in word])):
        raise InvalidWord(word)
