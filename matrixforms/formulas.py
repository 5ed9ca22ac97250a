"""Formulas of matrices: the twelve kinds, made of one another."""

from matrixforms.errors import (
    InvalidAbout, InvalidExponent, InvalidIndex, InvalidName, InvalidNumber, InvalidSide, InvalidSymmetry,
    InvalidTable, Mismatch, NotAFormula, Singular, Unanchored,
)
from matrixforms.limits import MOST_POWER
from matrixforms.matrices import Matrix, is_table, stacked
from matrixforms.meeting import (
    check_equal_sides, check_rows_and_columns, check_square, joined_letters, joined_sizes, measured,
)
from matrixforms.names import is_index, is_letter_name, is_size_name, to_side
from matrixforms.ratios import is_number, is_whole, to_ratio

SYMMETRIES = ("plain", "symmetric", "skew")
# The weight and the levels of a letter, an eye and a zero.
LEAST = (1, 1)


def check_formula(formula):
    """Raise NotAFormula if a value is no formula."""
    if not isinstance(formula, Formula):
        raise NotAFormula(formula)


def check_about(letter_sides, symmetry, about):
    """Raise InvalidAbout if no letter with these sides and this symmetry is about this value."""
    if not is_number(about):
        raise InvalidAbout(about)
    if to_ratio(about) and (letter_sides[0] != letter_sides[1] or symmetry == "skew"):
        raise InvalidAbout(about)


def check_symmetry(letter_sides, symmetry):
    """Raise InvalidSymmetry if no letter with these sides has this symmetry."""
    if not (isinstance(symmetry, str) and symmetry in SYMMETRIES):
        raise InvalidSymmetry(symmetry)
    if symmetry != "plain" and letter_sides[0] != letter_sides[1]:
        raise InvalidSymmetry(symmetry)


class Formula:
    """A formula of one of the twelve kinds below. It never changes."""

    def __init__(self, kind, parts, letters, sides, measures, middle, spelled):
        self._kind = kind
        self._parts = parts
        self._letters = letters
        self._rows, self._columns = sides
        self._weight, self._levels = measures
        self._middle = middle
        self._spelled = spelled
        self._sizes = joined_sizes(parts) if parts else tuple(sorted(set(sides[0] + sides[1])))
        # Two formulas of one kind are equal exactly if these plain values are.
        self._mark = (spelled, tuple([letter._mark for letter in letters]))

    @property
    def kind(self):
        """The word for the kind."""
        return self._kind

    @property
    def rows(self):
        """The side of the rows."""
        return self._rows

    @property
    def columns(self):
        """The side of the columns."""
        return self._columns

    @property
    def middle(self):
        """The value, by blocks, for letters that are their numbers times the identity."""
        return self._middle

    @property
    def letters(self):
        """The tuple of the letters, ascending by their names."""
        return self._letters

    @property
    def sizes(self):
        """The ascending tuple of the size names."""
        return self._sizes

    @property
    def weight(self):
        """The number of letters, eyes and zeros in it."""
        return self._weight

    @property
    def levels(self):
        """The number of formulas that stand within one another."""
        return self._levels

    @property
    def parts(self):
        """The tuple of the formulas of which it is made."""
        return self._parts

    @property
    def transposed(self):
        """The transpose, a formula."""
        return Transposed(self)

    def inverse(self):
        """Return the inverse, a formula."""
        return Inverse(self)

    def __add__(self, other):
        return Sum(self, other)

    def __sub__(self, other):
        return Difference(self, other)

    def __mul__(self, other):
        if is_number(other):
            return Scaled(other, self)
        return Product(self, other)

    def __neg__(self):
        return Scaled(-1, self)

    def __pow__(self, other):
        return Power(self, other)

    def __getitem__(self, at):
        if not (isinstance(at, tuple) and len(at) == 2):
            raise InvalidIndex(at)
        return Corner(self, at[0], at[1])

    def __iter__(self):
        raise TypeError("a formula is not iterated over")

    def __eq__(self, other):
        return isinstance(other, Formula) and self._kind == other._kind and self._mark == other._mark

    def __str__(self):
        return str(self._spelled)

    def __repr__(self):
        return f"Formula({self._spelled!r})"


class Letter(Formula):
    """A letter, which stands for matrices."""

    def __init__(self, name, rows, columns, *, symmetry="plain", about=0):
        if not is_letter_name(name):
            raise InvalidName(name)
        for given in (rows, columns):
            if not is_size_name(given):
                raise InvalidSide(given)
        sides = ((rows,), (columns,))
        check_symmetry(sides, symmetry)
        check_about(sides, symmetry, about)
        super().__init__("letter", (), (), sides, LEAST, Matrix(((about,),)), name)
        self._name = name
        self._symmetry = symmetry
        self._about = to_ratio(about)
        self._letters = (self,)
        self._mark = (name, rows, columns, symmetry, self._about.top, self._about.bottom)

    @property
    def name(self):
        """The letter name."""
        return self._name

    @property
    def symmetry(self):
        """What is known of its matrices: "plain", "symmetric" or "skew"."""
        return self._symmetry

    @property
    def about(self):
        """The Ratio that it is about."""
        return self._about


class Eye(Formula):
    """An identity matrix."""

    def __init__(self, side):
        names = to_side(side)
        spelled = f"eye({', '.join(names)})"
        super().__init__("eye", (), (), (names, names), LEAST, Matrix.eye(len(names)), spelled)


class Zero(Formula):
    """A zero matrix."""

    def __init__(self, rows, columns):
        sides = (to_side(rows), to_side(columns))
        spelled = f"zero({', '.join(sides[0])}; {', '.join(sides[1])})"
        super().__init__("zero", (), (), sides, LEAST, Matrix.zero(len(sides[0]), len(sides[1])), spelled)


class Sum(Formula):
    """The sum of two formulas."""

    def __init__(self, formula, other):
        check_formula(formula)
        check_formula(other)
        parts = (formula, other)
        letters = joined_letters(parts)
        check_equal_sides(formula, other)
        sides = (formula.rows, formula.columns)
        measures = measured(parts, sides)
        middle = formula.middle + other.middle
        super().__init__("sum", parts, letters, sides, measures, middle, f"({formula} + {other})")


class Difference(Formula):
    """The first formula less the other one."""

    def __init__(self, formula, other):
        check_formula(formula)
        check_formula(other)
        parts = (formula, other)
        letters = joined_letters(parts)
        check_equal_sides(formula, other)
        sides = (formula.rows, formula.columns)
        measures = measured(parts, sides)
        middle = formula.middle - other.middle
        super().__init__("difference", parts, letters, sides, measures, middle, f"({formula} - {other})")


class Scaled(Formula):
    """A number times a formula."""

    def __init__(self, number, formula):
        if not is_number(number):
            raise InvalidNumber(number)
        check_formula(formula)
        factor = to_ratio(number)
        sides = (formula.rows, formula.columns)
        measures = measured((formula,), sides)
        middle = formula.middle * factor
        super().__init__("scaled", (formula,), formula.letters, sides, measures, middle, f"({factor} * {formula})")
        self._number = factor

    @property
    def number(self):
        """The Ratio by which the formula is multiplied."""
        return self._number


class Product(Formula):
    """The product of two formulas."""

    def __init__(self, formula, other):
        check_formula(formula)
        check_formula(other)
        parts = (formula, other)
        letters = joined_letters(parts)
        if formula.columns != other.rows:
            raise Mismatch(formula.columns, other.rows)
        sides = (formula.rows, other.columns)
        measures = measured(parts, sides)
        middle = formula.middle * other.middle
        super().__init__("product", parts, letters, sides, measures, middle, f"({formula} * {other})")


class Transposed(Formula):
    """The transpose of a formula."""

    def __init__(self, formula):
        check_formula(formula)
        sides = (formula.columns, formula.rows)
        measures = measured((formula,), sides)
        middle = formula.middle.transposed
        super().__init__("transposed", (formula,), formula.letters, sides, measures, middle, f"{formula}'")


class Inverse(Formula):
    """The inverse of a formula."""

    def __init__(self, formula):
        check_formula(formula)
        check_square(formula)
        sides = (formula.rows, formula.columns)
        measures = measured((formula,), sides)
        try:
            middle = formula.middle.inverse()
        except Singular:
            raise Unanchored(str(formula)) from None
        super().__init__("inverse", (formula,), formula.letters, sides, measures, middle, f"inv({formula})")


class Power(Formula):
    """The product of several factors that are one formula."""

    def __init__(self, formula, exponent):
        check_formula(formula)
        if not (is_whole(exponent) and 1 <= exponent <= MOST_POWER):
            raise InvalidExponent(exponent)
        check_square(formula)
        sides = (formula.rows, formula.columns)
        measures = measured((formula,), sides, exponent)
        middle = formula.middle
        for _ in range(exponent - 1):
            middle = middle * formula.middle
        super().__init__("power", (formula,), formula.letters, sides, measures, middle, f"({formula} ** {exponent})")
        self._exponent = exponent

    @property
    def exponent(self):
        """The number of factors."""
        return self._exponent


class Blocks(Formula):
    """The block matrix of a table of formulas."""

    def __init__(self, table):
        if not is_table(table):
            raise InvalidTable(table)
        parts = tuple([formula for line in table for formula in line])
        if not all([isinstance(formula, Formula) for formula in parts]):
            raise InvalidTable(table)
        letters = joined_letters(parts)
        check_rows_and_columns(table)
        rows = tuple([name for line in table for name in line[0].rows])
        columns = tuple([name for formula in table[0] for name in formula.columns])
        measures = measured(parts, (rows, columns))
        middle = stacked([[formula.middle for formula in line] for line in table])
        lines = "; ".join([", ".join([str(formula) for formula in line]) for line in table])
        super().__init__("blocks", parts, letters, (rows, columns), measures, middle, f"blocks({lines})")
        self._table = tuple([tuple(line) for line in table])

    @property
    def table(self):
        """The tuple of the rows of the table, tuples of formulas."""
        return self._table


class Corner(Formula):
    """One block of a formula."""

    def __init__(self, formula, row, column):
        check_formula(formula)
        if not is_index(row, len(formula.rows)):
            raise InvalidIndex(row)
        if not is_index(column, len(formula.columns)):
            raise InvalidIndex(column)
        sides = ((formula.rows[row],), (formula.columns[column],))
        measures = measured((formula,), sides)
        middle = Matrix(((formula.middle[row, column],),))
        super().__init__("corner", (formula,), formula.letters, sides, measures, middle, f"{formula}[{row}, {column}]")
        self._row = row
        self._column = column

    @property
    def row(self):
        """The index of the block's row."""
        return self._row

    @property
    def column(self):
        """The index of the block's column."""
        return self._column
