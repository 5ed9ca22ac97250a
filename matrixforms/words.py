"""Symbols and words."""

from matrixforms.errors import InvalidWord


def is_symbol(given):
    """Tell whether a value is a pair of a string and a truth value."""
    if not (isinstance(given, tuple) and len(given) == 2):
        return False
    return isinstance(given[0], str) and isinstance(given[1], bool)


def check_word(word):
    """Raise InvalidWord if a value is no tuple of pairs of a string and a truth value."""
    if not (isinstance(word, tuple) and all([is_symbol(symbol) for symbol in word])):
        raise InvalidWord(word)


def ends_of_symbol(symbol, letters):
    """Return the first and the last name of a symbol of these letters, by their names; None if it is none of them."""
    if not (is_symbol(symbol) and symbol[0] in letters):
        return None
    letter = letters[symbol[0]]
    if not symbol[1]:
        return letter.rows[0], letter.columns[0]
    return (letter.columns[0], letter.rows[0]) if letter.symmetry == "plain" else None


def is_word_of(word, letters):
    """Tell whether a value is a word of symbols of these letters."""
    if not isinstance(word, tuple):
        return False
    known = {letter.name: letter for letter in letters}
    found = [ends_of_symbol(symbol, known) for symbol in word]
    if None in found:
        return False
    return all([one[1] == other[0] for one, other in zip(found, found[1:])])


def is_closed_word(word, letters):
    """Tell whether a value is a closed word of symbols of these letters."""
    if not (is_word_of(word, letters) and len(word) >= 1):
        return False
    known = {letter.name: letter for letter in letters}
    return ends_of_symbol(word[0], known)[0] == ends_of_symbol(word[-1], known)[1]
