"""Understands the plain values of which claims and certificates are made.

Any value can be given. What is not of the form that is asked for is understood as None.
"""

from math import gcd

from matrixforms.errors import AnswerError, InputError, MeetError
from matrixforms.formulas import Letter
from matrixforms.matrices import Matrix, is_size, is_table
from matrixforms.names import is_index
from matrixforms.ratios import Ratio, is_whole
from matrixforms.reading import read
from matrixforms.values import is_matrix_of
from matrixforms.words import is_word_of


def is_tuple_of(given, count):
    """Tell whether a value is a tuple of so many values."""
    return isinstance(given, tuple) and len(given) == count


def all_or_none(found):
    """Return the tuple of what was understood, None if one of these values was not."""
    return None if any([one is None for one in found]) else tuple(found)


def number_understood(given):
    """Return the Ratio that is told as a pair in lowest terms."""
    if not (is_tuple_of(given, 2) and is_whole(given[0]) and is_whole(given[1])):
        return None
    if given[1] < 1 or gcd(given[0], given[1]) != 1:
        return None
    return Ratio(given[0], given[1])


def numbers_understood(given, count):
    """Return the tuple of so many Ratios."""
    if not is_tuple_of(given, count):
        return None
    return all_or_none([number_understood(number) for number in given])


def rows_understood(given, count):
    """Return the tuple of tuples of so many Ratios."""
    if not isinstance(given, tuple):
        return None
    return all_or_none([numbers_understood(row, count) for row in given])


def letter_understood(given):
    """Return the Letter that is told by what it consists of."""
    if not is_tuple_of(given, 5):
        return None
    about = number_understood(given[4])
    if about is None:
        return None
    try:
        return Letter(given[0], given[1], given[2], symmetry=given[3], about=about)
    except InputError:
        return None


def letters_understood(given):
    """Return the tuple of the Letters, whose names ascend."""
    if not isinstance(given, tuple):
        return None
    letters = all_or_none([letter_understood(letter) for letter in given])
    if letters is None or not all([one.name < other.name for one, other in zip(letters, letters[1:])]):
        return None
    return letters


def formula_understood(text, letters):
    """Return the formula with this text, as `str` gives it."""
    try:
        formula = read(text, letters)
    except (InputError, MeetError, AnswerError):
        return None
    return formula if str(formula) == text else None


def formulas_understood(texts, letters):
    """Return the tuple of the formulas with these texts, which have equal sides and in which all letters stand."""
    formulas = all_or_none([formula_understood(text, letters) for text in texts])
    if not formulas:
        return None
    if not all([one.rows == formulas[0].rows and one.columns == formulas[0].columns for one in formulas]):
        return None
    used = len(set([letter.name for formula in formulas for letter in formula.letters]))
    return formulas if used == len(letters) else None


def sizes_understood(given, names):
    """Return the dict from exactly these size names, which ascend, to their sizes."""
    if not is_tuple_of(given, len(names)):
        return None
    for pair, name in zip(given, names):
        if not (is_tuple_of(pair, 2) and isinstance(pair[0], str) and pair[0] == name and is_size(pair[1])):
            return None
    return dict(given)


def matrix_understood(given, letter, sizes):
    """Return the Matrix of a letter in these sizes."""
    if not (is_table(given) and len(given) == sizes[letter.rows[0]]):
        return None
    rows = rows_understood(given, sizes[letter.columns[0]])
    if rows is None:
        return None
    found = Matrix(rows)
    return found if is_matrix_of(letter, found, sizes) else None


def matrices_understood(given, letters, sizes):
    """Return the dict from the names of these letters to their matrices."""
    if not is_tuple_of(given, len(letters)):
        return None
    found = all_or_none([matrix_understood(one, letter, sizes) for one, letter in zip(given, letters)])
    return None if found is None else {letter.name: matrix for letter, matrix in zip(letters, found)}


def is_place(given, letters, counts):
    """Tell whether a value is a tuple of a word of these letters and indexes of things with so many members each."""
    if not (is_tuple_of(given, 1 + len(counts)) and is_word_of(given[0], letters)):
        return False
    return all([is_index(index, count) for index, count in zip(given[1:], counts)])


def are_places(given, count, letters, counts):
    """Tell whether a value is a tuple of so many places."""
    return is_tuple_of(given, count) and all([is_place(one, letters, counts) for one in given])
