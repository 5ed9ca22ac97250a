"""Matrices of exact fractions."""

from math import gcd, lcm

from matrixforms.errors import InvalidEntries, InvalidIndex, InvalidSize, InvalidText, Mismatch, NotARatio, Singular
from matrixforms.names import is_index
from matrixforms.ratios import Ratio, is_number, is_whole, to_ratio


def is_size(given):
    """Tell whether a value is an integer from 1 on."""
    return is_whole(given) and given >= 1


def is_table(given):
    """Tell whether a value is a tuple of one or more tuples of equal length, at least 1."""
    if not (isinstance(given, tuple) and len(given) >= 1):
        return False
    if not all([isinstance(row, tuple) and len(row) >= 1 for row in given]):
        return False
    return all([len(row) == len(given[0]) for row in given])


def over_one_bottom(numbers):
    """Return integers and a bottom below all of them that together are these Ratios."""
    bottom = 1
    for number in numbers:
        bottom = lcm(bottom, number.bottom)
    return [number.top * (bottom // number.bottom) for number in numbers], bottom


def row_times(row, columns):
    """Return the products of a row of Ratios with columns that are over one bottom each."""
    tops, bottom = over_one_bottom(row)
    # Most numbers of the matrices that show a difference are 0, so leave these out once for all columns.
    used = [(index, top) for index, top in enumerate(tops) if top]
    return tuple([Ratio(sum([top * cells[index] for index, top in used]), bottom * below) for cells, below in columns])


def multiplied(entries, others):
    """Return the entries of the product of two matrices with these entries."""
    columns = [over_one_bottom([row[index] for row in others]) for index in range(len(others[0]))]
    return tuple([row_times(row, columns) for row in entries])


def primitive(numbers):
    """Return these integers, which are not all 0, without their common divisor."""
    shared = 0
    for number in numbers:
        shared = gcd(shared, number)
        if shared == 1:
            return numbers
    return [number // shared for number in numbers]


def cleared(row, pivot_row, column):
    """Return a multiple of the row less a multiple of the pivot row, with 0 in this column."""
    if row[column] == 0:
        return row
    lead, factor = pivot_row[column], row[column]
    return primitive([lead * number - factor * less for number, less in zip(row, pivot_row)])


def with_pivot(rows, column):
    """Return rows of integers in which this column has a number in the row of the same index alone."""
    found = [at for at in range(column, len(rows)) if rows[at][column] != 0]
    if not found:
        raise Singular()
    at = found[0]
    pivot_row = rows[at]
    others = [rows[column] if k == at else row for k, row in enumerate(rows)]
    return [pivot_row if k == column else cleared(row, pivot_row, column) for k, row in enumerate(others)]


def beside_unit(row, place):
    """Return integers for a row and, behind it, for the row of the identity matrix with this index."""
    tops, bottom = over_one_bottom(row)
    return [*tops, *[bottom if index == place else 0 for index in range(len(row))]]


def inverted(entries):
    """Return the entries of the inverse of a square matrix with these entries."""
    size = len(entries)
    rows = [beside_unit(row, place) for place, row in enumerate(entries)]
    for column in range(size):
        rows = with_pivot(rows, column)
    return tuple([tuple([Ratio(top, row[place]) for top in row[size:]]) for place, row in enumerate(rows)])


def stacked(table):
    """Return the block matrix of a table of matrices that fit one another."""
    rows = []
    for line in table:
        for at in range(line[0].rows):
            rows.append(tuple([number for block in line for number in block.entries[at]]))
    return Matrix(tuple(rows))


class Matrix:
    """A table of exact fractions. It never changes."""

    def __init__(self, entries):
        if not (is_table(entries) and all([is_number(number) for row in entries for number in row])):
            raise InvalidEntries(entries)
        self._entries = tuple([tuple([to_ratio(number) for number in row]) for row in entries])

    @property
    def entries(self):
        """The tuple of the rows, tuples of Ratios."""
        return self._entries

    @property
    def rows(self):
        """The number of rows."""
        return len(self._entries)

    @property
    def columns(self):
        """The number of columns."""
        return len(self._entries[0])

    @property
    def transposed(self):
        """The transpose."""
        return Matrix(tuple([tuple([row[index] for row in self._entries]) for index in range(self.columns)]))

    @classmethod
    def eye(cls, size):
        """Return the identity matrix of this size."""
        if not is_size(size):
            raise InvalidSize(size)
        return cls(tuple([tuple([1 if column == row else 0 for column in range(size)]) for row in range(size)]))

    @classmethod
    def zero(cls, rows, columns):
        """Return the zero matrix with so many rows and columns."""
        for given in (rows, columns):
            if not is_size(given):
                raise InvalidSize(given)
        return cls(((0,) * columns,) * rows)

    @classmethod
    def read(cls, text):
        """Return the matrix with this text."""
        if not isinstance(text, str):
            raise InvalidText(text)
        try:
            rows = [tuple([Ratio.read(word) for word in line.split(" ")]) for line in text.split("; ")]
        except NotARatio:
            raise InvalidText(text) from None
        if not is_table(tuple(rows)):
            raise InvalidText(text)
        return cls(tuple(rows))

    def inverse(self):
        """Return the inverse."""
        self._check_square()
        return Matrix(inverted(self._entries))

    def trace(self):
        """Return the sum of the entries (i, i)."""
        self._check_square()
        total = Ratio(0)
        for index in range(self.rows):
            total = total + self._entries[index][index]
        return total

    def _check_square(self):
        if self.rows != self.columns:
            raise Mismatch(self.rows, self.columns)

    def _check_equal_sizes(self, other):
        if (self.rows, self.columns) != (other.rows, other.columns):
            raise Mismatch((self.rows, self.columns), (other.rows, other.columns))

    def __add__(self, other):
        if not isinstance(other, Matrix):
            return NotImplemented
        self._check_equal_sizes(other)
        return Matrix(tuple([
            tuple([one + more for one, more in zip(row, added)]) for row, added in zip(self._entries, other.entries)
        ]))

    def __sub__(self, other):
        if not isinstance(other, Matrix):
            return NotImplemented
        self._check_equal_sizes(other)
        return Matrix(tuple([
            tuple([one - less for one, less in zip(row, taken)]) for row, taken in zip(self._entries, other.entries)
        ]))

    def __mul__(self, other):
        if is_number(other):
            return Matrix(tuple([tuple([number * other for number in row]) for row in self._entries]))
        if not isinstance(other, Matrix):
            return NotImplemented
        if self.columns != other.rows:
            raise Mismatch(self.columns, other.rows)
        return Matrix(multiplied(self._entries, other.entries))

    def __neg__(self):
        return self * -1

    def __getitem__(self, at):
        if not (isinstance(at, tuple) and len(at) == 2):
            raise InvalidIndex(at)
        if not (is_index(at[0], self.rows) and is_index(at[1], self.columns)):
            raise InvalidIndex(at)
        return self._entries[at[0]][at[1]]

    def __iter__(self):
        raise TypeError("a matrix is not iterated over")

    def __eq__(self, other):
        return isinstance(other, Matrix) and self._entries == other._entries

    def __str__(self):
        return "; ".join([" ".join([str(number) for number in row]) for row in self._entries])

    def __repr__(self):
        return f"Matrix({str(self)!r})"
