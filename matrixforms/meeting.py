"""What holds where several formulas meet in another one, or in one call."""

from matrixforms.errors import Clash, Mismatch, TooLarge, UnknownName
from matrixforms.limits import MOST_LEVELS, MOST_SIDE, MOST_WEIGHT


def joined_letters(formulas):
    """Return the tuple of the letters of these formulas, ascending by their names."""
    found = {}
    unlike = []
    for formula in formulas:
        for letter in formula.letters:
            if letter.name not in found:
                found[letter.name] = letter
            elif found[letter.name] != letter:
                unlike.append(letter.name)
    if unlike:
        raise Clash(min(unlike))
    return tuple([found[name] for name in sorted(list(found))])


def joined_sizes(formulas):
    """Return the ascending tuple of the size names of these formulas."""
    return tuple(sorted(set([name for formula in formulas for name in formula.sizes])))


def letter_called(formula, name):
    """Return the letter of a formula with this name; UnknownName if it has none."""
    for letter in formula.letters:
        if isinstance(name, str) and letter.name == name:
            return letter
    raise UnknownName(name)


def sides_of(formula):
    """Return the pair of the rows and columns of a formula."""
    return formula.rows, formula.columns


def check_equal_sides(formula, other):
    """Raise Mismatch if two formulas have unlike sides."""
    if sides_of(formula) != sides_of(other):
        raise Mismatch(sides_of(formula), sides_of(other))


def check_square(formula):
    """Raise Mismatch if the rows of a formula are not its columns."""
    if formula.rows != formula.columns:
        raise Mismatch(formula.rows, formula.columns)


def check_rows_and_columns(table):
    """Raise Mismatch if the formulas in a row or a column of a table do not fit one another."""
    for line in table:
        for formula in line:
            if formula.rows != line[0].rows:
                raise Mismatch(line[0].rows, formula.rows)
    for line in table:
        for first, formula in zip(table[0], line):
            if formula.columns != first.columns:
                raise Mismatch(first.columns, formula.columns)


def measured(parts, sides, times=1):
    """Return the weight and the levels of a formula with these sides that is made of these parts."""
    weight = times * sum([part.weight for part in parts])
    if weight > MOST_WEIGHT:
        raise TooLarge(MOST_WEIGHT)
    if max([len(side) for side in sides]) > MOST_SIDE:
        raise TooLarge(MOST_SIDE)
    levels = 1 + max([part.levels for part in parts])
    if levels > MOST_LEVELS:
        raise TooLarge(MOST_LEVELS)
    return weight, levels
