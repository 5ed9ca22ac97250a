"""Parts of formulas, Schur complements, and inverses by way of these."""

from matrixforms.cutting import cut_out
from matrixforms.errors import InvalidIndex, Singular, Unanchored
from matrixforms.formulas import Blocks, Eye, Zero, check_formula
from matrixforms.limits import MOST_SIDE
from matrixforms.matrices import Matrix
from matrixforms.meeting import check_square
from matrixforms.names import is_index
from matrixforms.ratios import is_whole


def check_indexes(given, count):
    """Raise InvalidIndex if a value is no tuple of 1 to 16 indexes of so many names."""
    if not (isinstance(given, tuple) and 1 <= len(given) <= MOST_SIDE):
        raise InvalidIndex(given)
    if not all([is_index(index, count) for index in given]):
        raise InvalidIndex(given)


def part(formula, rows, columns):
    """Return the part of a formula with these rows and these columns, in the order in which they are given."""
    check_formula(formula)
    check_indexes(rows, len(formula.rows))
    check_indexes(columns, len(formula.columns))
    return Blocks(tuple([
        tuple([cut_out(formula, (row, row + 1), (column, column + 1)) for column in columns]) for row in rows
    ]))


def check_anchored(formula, middle):
    """Raise Unanchored with the text of a formula if this middle has no inverse."""
    try:
        middle.inverse()
    except Singular:
        raise Unanchored(str(formula)) from None


def check_head(formula, count):
    """Raise the error that values have that are no square formula and the number of names of an anchored head."""
    check_formula(formula)
    check_square(formula)
    if not (is_whole(count) and 1 <= count < len(formula.rows)):
        raise InvalidIndex(count)
    check_anchored(formula, Matrix(tuple([row[:count] for row in formula.middle.entries[:count]])))


def quarters(formula, count):
    """Return the four parts of a square formula for a head of so many names, row by row."""
    head, rest = (0, count), (count, len(formula.rows))
    return [cut_out(formula, rows, columns) for rows in (head, rest) for columns in (head, rest)]


def complement(parts):
    """Return the Schur complement for the four parts of a formula."""
    return parts[3] - parts[2] * parts[0].inverse() * parts[1]


def schur(formula, count):
    """Return the Schur complement of the head of so many names."""
    check_head(formula, count)
    return complement(quarters(formula, count))


def eliminated(formula, count):
    """Return the inverse of a formula, with no other inverses than those of its head and its complement."""
    check_head(formula, count)
    check_anchored(formula, formula.middle)
    parts = quarters(formula, count)
    head, rest = formula.rows[:count], formula.rows[count:]
    inner = parts[0].inverse()
    above, beside = Zero(head, rest), Zero(rest, head)
    first = Blocks(((Eye(head), -(inner * parts[1])), (beside, Eye(rest))))
    last = Blocks(((Eye(head), above), (-(parts[2] * inner), Eye(rest))))
    return first * Blocks(((inner, above), (beside, complement(parts).inverse()))) * last
