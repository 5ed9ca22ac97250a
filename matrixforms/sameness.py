"""Decides whether formulas are the same, and shows matrices for which they are not."""

from matrixforms.errors import Mismatch, NoValue
from matrixforms.formulas import check_formula
from matrixforms.machines import equal_machines, product_machine, scaled_machine, transposed_machine
from matrixforms.matrices import Matrix
from matrixforms.meeting import check_equal_sides, check_square, joined_letters, joined_sizes
from matrixforms.partings import Trail, first_unlike_word
from matrixforms.ranks import all_formed
from matrixforms.ratios import Ratio
from matrixforms.reducing import reduced
from matrixforms.values import value


class Parting:
    """Sizes and matrices for which two formulas have unlike values. It never changes."""

    def __init__(self, word, divisor, sizes, matrices, values):
        self._word = word
        self._divisor = divisor
        self._sizes = sizes
        self._matrices = matrices
        self._left, self._right = values

    @property
    def word(self):
        """The first word whose coefficients differ."""
        return self._word

    @property
    def divisor(self):
        """The integer below the numbers along the word."""
        return self._divisor

    @property
    def sizes(self):
        """A new dict from the size names to their sizes."""
        return dict(self._sizes)

    @property
    def matrices(self):
        """A new dict from the letter names to their Matrices."""
        return dict(self._matrices)

    @property
    def left(self):
        """The value of the first formula, a Matrix."""
        return self._left

    @property
    def right(self):
        """The value of the other formula, a Matrix."""
        return self._right

    def __eq__(self, other):
        if not isinstance(other, Parting):
            return False
        return (
            self._word == other._word and self._divisor == other._divisor and self._sizes == other._sizes
            and self._matrices == other._matrices and self._left == other._left and self._right == other._right
        )


def check_two(formula, other):
    """Raise the error that two values have that are no formulas with equal sides and fitting letters."""
    check_formula(formula)
    check_formula(other)
    joined_letters((formula, other))
    check_equal_sides(formula, other)


def check_two_square(formula, other):
    """Raise the error that two values have that are no square formulas with equal rows and fitting letters."""
    check_formula(formula)
    check_formula(other)
    check_square(formula)
    check_square(other)
    joined_letters((formula, other))
    if formula.rows != other.rows:
        raise Mismatch(formula.rows, other.rows)


def check_one_square(formula):
    """Raise the error that a value has that is no square formula."""
    check_formula(formula)
    check_square(formula)


def same(formula, other):
    """Tell whether two formulas are the same."""
    check_two(formula, other)
    one, another = all_formed((formula, other))
    return equal_machines(one, another)


def parting(formula, other):
    """Return a Parting of two formulas, None if they are the same."""
    check_two(formula, other)
    one, another = all_formed((formula, other))
    word = first_unlike_word(one, another)
    if word is None:
        return None
    trail = Trail(word, {letter.name: letter for letter in joined_letters((formula, other))})
    sizes = trail.sizes_for(joined_sizes((formula, other)))
    divisor = 1
    while True:
        matrices = trail.matrices_for(sizes, divisor)
        values = unlike_values(formula, other, sizes, matrices)
        if values is not None:
            return Parting(word, divisor, sizes, matrices, values)
        divisor += 1


def unlike_values(formula, other, sizes, matrices):
    """Return the pair of the values of two formulas, None if one has no value or they are equal."""
    try:
        values = (value(formula, sizes, matrices), value(other, sizes, matrices))
    except NoValue:
        return None
    return None if values[0] == values[1] else values


def transpose_of(formula, one):
    """Return the machine of the form of the transpose of a formula whose form has this machine."""
    return reduced(transposed_machine(one, {letter.name: letter.symmetry for letter in formula.letters}))[0]


def is_eye(machine):
    """Tell whether a square formula with this machine is the same as an eye."""
    return machine.core == Matrix.eye(len(machine.sides[0])) and len(reduced(machine)[1]) == 0


def symmetric(formula):
    """Tell whether a formula is the same as its transpose."""
    check_one_square(formula)
    one = all_formed((formula,))[0]
    return equal_machines(one, transpose_of(formula, one))


def skew(formula):
    """Tell whether a formula is the same as -1 times its transpose."""
    check_one_square(formula)
    one = all_formed((formula,))[0]
    return equal_machines(one, reduced(scaled_machine(Ratio(-1), transpose_of(formula, one)))[0])


def idempotent(formula):
    """Tell whether a formula is the same as its product with itself."""
    check_one_square(formula)
    one = all_formed((formula,))[0]
    return equal_machines(one, reduced(product_machine(one, one))[0])


def orthogonal(formula):
    """Tell whether both products of a formula and its transpose are the same as eyes."""
    check_one_square(formula)
    one = all_formed((formula,))[0]
    turned = transpose_of(formula, one)
    return is_eye(product_machine(turned, one)) and is_eye(product_machine(one, turned))


def commute(formula, other):
    """Tell whether the two products of two formulas are the same."""
    check_two_square(formula, other)
    one, another = all_formed((formula, other))
    return equal_machines(reduced(product_machine(one, another))[0], reduced(product_machine(another, one))[0])


def inverses(formula, other):
    """Tell whether both products of two formulas are the same as eyes."""
    check_two_square(formula, other)
    one, another = all_formed((formula, other))
    return is_eye(product_machine(one, another)) and is_eye(product_machine(another, one))
