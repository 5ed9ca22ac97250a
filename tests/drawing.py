"""Draws formulas, sizes and matrices, the same ones in each run."""

from fractions import Fraction
from random import Random

from matrixforms.errors import TooLarge, Unanchored
from matrixforms.formulas import Blocks, Corner, Eye, Letter, Zero
from matrixforms.matrices import Matrix
from matrixforms.ratios import Ratio

LETTERS = (
    Letter("A", "n", "n", about=1), Letter("B", "n", "n"), Letter("S", "n", "n", symmetry="symmetric", about=Ratio(-1, 2)),
    Letter("K", "n", "n", symmetry="skew"), Letter("X", "n", "p"), Letter("Y", "p", "n"), Letter("D", "p", "p", about=2),
)
MANY = tuple(Letter(f"L{k}", "n", "n") for k in range(40))
NUMBERS = (Ratio(1), Ratio(-1), Ratio(2), Ratio(1, 2), Ratio(-3, 2), Ratio(0))


def chain(letters):
    """The product of these letters: its rank is their number."""
    found = letters[0]
    for letter in letters[1:]:
        found = found * letter
    return found


class Drawing:
    """Draws with the numbers that follow from a seed."""

    def __init__(self, seed, letters=LETTERS):
        self.random = Random(seed)
        self.letters = letters

    def leaf(self, rows, columns):
        """A letter, its transpose, an eye or a zero with these sides of one name."""
        fitting = [letter for letter in self.letters if (letter.rows, letter.columns) == (rows, columns)]
        turned = [letter.transposed for letter in self.letters if (letter.columns, letter.rows) == (rows, columns)]
        other = [Zero(rows, columns)] + ([Eye(rows)] if rows == columns else [])
        return self.random.choice(fitting * 3 + turned * 2 + other)

    def side(self, most=2):
        return tuple(self.random.choice("np") for _ in range(self.random.randint(1, most)))

    def formula(self, rows, columns, levels):
        """A formula with these sides."""
        if levels <= 1:
            if len(rows) == 1 and len(columns) == 1:
                return self.leaf(rows, columns)
            return self.blocks(rows, columns, 1)
        kinds = ["sum", "difference", "scaled", "product", "product", "transposed"]
        if len(rows) + len(columns) > 2:
            kinds += ["blocks"] * 3
        else:
            kinds += ["corner", "leaf"]
        if rows == columns:
            kinds += ["inverse", "inverse", "inverse", "power"]
        return getattr(self, "make_" + self.random.choice(kinds))(rows, columns, levels - 1)

    def blocks(self, rows, columns, levels):
        """Blocks of formulas with sides of one name."""
        return Blocks(tuple(tuple(self.formula((r,), (c,), levels) for c in columns) for r in rows))

    def parted(self, side):
        """The side, cut into several ones at drawn places."""
        found = [side[:1]]
        for name in side[1:]:
            found = found + [(name,)] if self.random.random() < 0.5 else found[:-1] + [found[-1] + (name,)]
        return found

    def make_leaf(self, rows, columns, levels):
        return self.leaf(rows, columns)

    def make_sum(self, rows, columns, levels):
        return self.formula(rows, columns, levels) + self.formula(rows, columns, levels)

    def make_difference(self, rows, columns, levels):
        return self.formula(rows, columns, levels) - self.formula(rows, columns, levels)

    def make_scaled(self, rows, columns, levels):
        return self.formula(rows, columns, levels) * self.random.choice(NUMBERS)

    def make_product(self, rows, columns, levels):
        inner = self.side()
        return self.formula(rows, inner, levels) * self.formula(inner, columns, levels)

    def make_transposed(self, rows, columns, levels):
        return self.formula(columns, rows, levels).transposed

    def make_power(self, rows, columns, levels):
        return self.formula(rows, columns, levels) ** self.random.randint(1, 3)

    def make_blocks(self, rows, columns, levels):
        lines, widths = self.parted(rows), self.parted(columns)
        return Blocks(tuple(tuple(self.formula(line, width, levels) for width in widths) for line in lines))

    def make_corner(self, rows, columns, levels):
        more_rows, more_columns = self.side(), self.side()
        row, column = self.random.randrange(len(more_rows)), self.random.randrange(len(more_columns))
        more_rows = more_rows[:row] + rows + more_rows[row + 1:]
        more_columns = more_columns[:column] + columns + more_columns[column + 1:]
        return Corner(self.formula(more_rows, more_columns, levels), row, column)

    def make_inverse(self, rows, columns, levels):
        for _ in range(4):
            inner = self.formula(rows, columns, levels)
            try:
                return inner.inverse()
            except Unanchored:
                pass
        return (Eye(rows) * 2 + inner * 0).inverse() if self.random.random() < 0.5 else inner

    def fraction(self):
        return Fraction(self.random.randint(-4, 4), self.random.choice((1, 1, 2, 3)))

    def table(self, letter, sizes):
        """A matrix of the letter, as a table of fractions."""
        rows, columns = sizes[letter.rows[0]], sizes[letter.columns[0]]
        table = [[self.fraction() for _ in range(columns)] for _ in range(rows)]
        for i in range(rows):
            for j in range(i if letter.symmetry != "plain" else 0):
                table[i][j] = table[j][i] * (1 if letter.symmetry == "symmetric" else -1)
            if letter.symmetry == "skew":
                table[i][i] = Fraction(0)
        return table


def matrix(table):
    """The Matrix with these fractions."""
    return Matrix(tuple(tuple(Ratio(x.numerator, x.denominator) for x in row) for row in table))


def drawn(count, levels, seed=0, letters=LETTERS, most=1000):
    """So many drawn formulas with sides of up to three names, of at most this weight."""
    drawing = Drawing(seed, letters)
    found = []
    while len(found) < count:
        names = drawing.random.choice((1, 1, 2, 2, 3))
        rows = drawing.side(names)
        columns = rows if drawing.random.random() < 0.5 else drawing.side(names)
        try:
            one = drawing.formula(rows, columns, drawing.random.randint(1, levels))
        except TooLarge:
            continue
        if one.weight <= most:
            found.append(one)
    return found
