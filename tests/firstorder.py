"""Values for X + t H up to first order in t, with numbers a + b t."""

from fractions import Fraction

import reference


class Dual:
    """The number a + b t, in which t * t is 0."""

    def __init__(self, a, b=0):
        self.a, self.b = Fraction(a), Fraction(b)

    def __add__(self, other):
        other = dual(other)
        return Dual(self.a + other.a, self.b + other.b)

    def __mul__(self, other):
        other = dual(other)
        return Dual(self.a * other.a, self.a * other.b + self.b * other.a)

    def __sub__(self, other):
        return self + dual(other) * -1

    def over(self, other):
        return self * Dual(1 / other.a, -other.b / (other.a * other.a))

    __radd__ = __add__
    __rmul__ = __mul__


def dual(number):
    return number if isinstance(number, Dual) else Dual(number)


def invert(table):
    """The inverse, by elimination with pivots that are not 0 for t = 0."""
    size = len(table)
    rows = [[dual(x) for x in row] + [Dual(int(i == j)) for j in range(size)] for i, row in enumerate(table)]
    for k in range(size):
        at = next((r for r in range(k, size) if rows[r][k].a), None)
        if at is None:
            raise reference.NoInverse()
        rows[k], rows[at] = rows[at], rows[k]
        rows[k] = [x.over(rows[k][k]) for x in rows[k]]
        for r in range(size):
            if r != k:
                factor = rows[r][k]
                rows[r] = [x - factor * y for x, y in zip(rows[r], rows[k])]
    return [row[size:] for row in rows]


def change(formula, sizes, tables, name, direction):
    """The table by which the value changes in first order, where the matrix of a letter goes in a direction."""
    moving = [[Dual(x, h) for x, h in zip(row, steps)] for row, steps in zip(tables[name], direction)]
    found = reference.value(formula, sizes, {**tables, name: moving}, invert)
    return [[dual(x).b for x in row] for row in found]
