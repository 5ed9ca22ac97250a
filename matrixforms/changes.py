"""Changes of the letters of formulas: other formulas in their places, other numbers, other directions."""

from matrixforms.errors import InvalidMapping, InvalidName, Taken
from matrixforms.formulas import Letter, check_formula
from matrixforms.meeting import check_equal_sides, letter_called
from matrixforms.names import is_letter_name
from matrixforms.reading import made, step_of
from matrixforms.slopes import Slopes, has_letter


def check_keys(given):
    """Raise InvalidMapping if a value is no dict whose keys are strings."""
    if not isinstance(given, dict):
        raise InvalidMapping(given)
    if not all([isinstance(key, str) for key in list(given)]):
        raise InvalidMapping(given)


def replaced(formula, formulas, known):
    """Return the formula with these formulas, by letter names, in the places of letters.

    known has what was made before, by the texts of the formulas: all letters with equal names
    are equal here, so a text stands for one formula alone.
    """
    if formula.kind == "letter":
        return formulas.get(formula.name, formula)
    if not any([letter.name in formulas for letter in formula.letters]):
        return formula
    spelled = str(formula)
    if spelled not in known:
        parts = [replaced(part, formulas, known) for part in formula.parts]
        known[spelled] = made(step_of(formula), parts, {})
    return known[spelled]


def substituted(formula, formulas):
    """Return the formula with these formulas, by letter names, in the places of letters, all at once."""
    check_formula(formula)
    check_keys(formulas)
    for name in sorted(list(formulas)):
        letter = letter_called(formula, name)
        check_formula(formulas[name])
        check_equal_sides(letter, formulas[name])
    return replaced(formula, formulas, {})


def moved(formula, numbers):
    """Return the formula with letters that are about these numbers, by their names."""
    check_formula(formula)
    check_keys(numbers)
    letters = {}
    for name in sorted(list(numbers)):
        old = letter_called(formula, name)
        letters[name] = Letter(name, old.rows[0], old.columns[0], symmetry=old.symmetry, about=numbers[name])
    return replaced(formula, letters, {})


def derivative(formula, name, direction):
    """Return the derivative for the letter with this name in the direction of a new letter."""
    check_formula(formula)
    letter = letter_called(formula, name)
    if not is_letter_name(direction):
        raise InvalidName(direction)
    if has_letter(formula, direction):
        raise Taken(direction)
    step = Letter(direction, letter.rows[0], letter.columns[0], symmetry=letter.symmetry)
    return Slopes(name, step).of(formula)
