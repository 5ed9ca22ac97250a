"""Values of formulas for given sizes and matrices."""

from matrixforms.errors import InvalidMapping, NoMatrix, NoSize, NoValue, Singular
from matrixforms.formulas import check_formula
from matrixforms.matrices import Matrix, is_size, stacked


def is_matrix_of(letter, given, sizes):
    """Tell whether a value is a matrix of the letter for these sizes."""
    if not isinstance(given, Matrix):
        return False
    if given.rows != sizes[letter.rows[0]] or given.columns != sizes[letter.columns[0]]:
        return False
    if letter.symmetry == "symmetric":
        return given == given.transposed
    return letter.symmetry == "plain" or given == -given.transposed


def length(side, sizes):
    """Return the length of a side."""
    return sum([sizes[name] for name in side])


def span_of(side, index, sizes):
    """Return where the block with this index begins, and where it ends."""
    start = length(side[:index], sizes)
    return start, start + sizes[side[index]]


def cut(formula, whole, sizes):
    """Return the block of a matrix that a corner takes."""
    inner = formula.parts[0]
    top, bottom = span_of(inner.rows, formula.row, sizes)
    left, right = span_of(inner.columns, formula.column, sizes)
    return Matrix(tuple([row[left:right] for row in whole.entries[top:bottom]]))


def raised(base, exponent):
    """Return the product of so many factors."""
    found = base
    for _ in range(exponent - 1):
        found = found * base
    return found


def inverse_of(matrix):
    """Return the inverse of a matrix; NoValue if it has none."""
    try:
        return matrix.inverse()
    except Singular:
        raise NoValue() from None


def tabled(formula, parts):
    """Return the block matrix of the values of the formulas in a table."""
    width = len(formula.table[0])
    return stacked([parts[start:start + width] for start in range(0, len(parts), width)])


def put_together(formula, parts, sizes):
    """Return the value of a formula that is made of formulas with these values."""
    first = parts[0]
    if formula.kind == "sum":
        return first + parts[1]
    if formula.kind == "difference":
        return first - parts[1]
    if formula.kind == "product":
        return first * parts[1]
    if formula.kind == "scaled":
        return first * formula.number
    if formula.kind == "transposed":
        return first.transposed
    if formula.kind == "inverse":
        return inverse_of(first)
    if formula.kind == "power":
        return raised(first, formula.exponent)
    if formula.kind == "blocks":
        return tabled(formula, parts)
    return cut(formula, first, sizes)


def constant(formula, sizes):
    """Return the value of an eye or a zero."""
    rows = length(formula.rows, sizes)
    if formula.kind == "eye":
        return Matrix.eye(rows)
    return Matrix.zero(rows, length(formula.columns, sizes))


def computed(formula, sizes, matrices, known):
    """Return the value of a formula; known has the values that were found before, by their texts."""
    if formula.kind == "letter":
        return matrices[formula.name]
    spelled = str(formula)
    # All letters with equal names are equal here, so a text stands for one formula alone.
    if spelled not in known:
        if formula.parts:
            parts = [computed(part, sizes, matrices, known) for part in formula.parts]
            known[spelled] = put_together(formula, parts, sizes)
        else:
            known[spelled] = constant(formula, sizes)
    return known[spelled]


def value(formula, sizes, matrices):
    """Return the value of a formula for these sizes and matrices."""
    check_formula(formula)
    for given in (sizes, matrices):
        if not isinstance(given, dict):
            raise InvalidMapping(given)
    for name in formula.sizes:
        if not is_size(sizes.get(name)):
            raise NoSize(name)
    for letter in formula.letters:
        if not is_matrix_of(letter, matrices.get(letter.name), sizes):
            raise NoMatrix(letter.name)
    return computed(formula, sizes, matrices, {})
