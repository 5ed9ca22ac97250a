"""Derivatives of formulas, each made of those of its parts."""

from matrixforms.formulas import Blocks, Corner, Power, Scaled, Transposed, Zero
from matrixforms.writing import summed


def has_letter(formula, name):
    """Tell whether a formula has a letter with this name."""
    return name in [letter.name for letter in formula.letters]


def raised_to(formula, exponent):
    """Return the product of so many equal factors, a power only where there are several."""
    return formula if exponent == 1 else Power(formula, exponent)


def between(one, inner, exponent, other):
    """Return the product of a formula with so many factors of another one before it, and so many behind it."""
    found = inner
    if exponent:
        found = raised_to(one, exponent) * found
    if other:
        found = found * raised_to(one, other)
    return found


class Slopes:
    """Makes the derivatives for the letter with one name in the direction of another letter."""

    def __init__(self, name, direction):
        self._name = name
        self._direction = direction

    def of(self, formula):
        """Return the derivative of a formula that has the letter."""
        if formula.kind == "letter":
            return self._direction
        if formula.kind in ("sum", "difference", "product"):
            return self._of_two(formula)
        if formula.kind == "blocks":
            return Blocks(tuple([tuple([self._entry(part) for part in line]) for line in formula.table]))
        inner = self.of(formula.parts[0])
        if formula.kind == "scaled":
            return Scaled(formula.number, inner)
        if formula.kind == "transposed":
            return Transposed(inner)
        if formula.kind == "inverse":
            return -(formula * inner * formula)
        if formula.kind == "power":
            return self._of_power(formula, inner)
        return Corner(inner, formula.row, formula.column)

    def _of_two(self, formula):
        one, other = formula.parts
        if formula.kind == "product":
            found = [self.of(one) * other] if has_letter(one, self._name) else []
            if has_letter(other, self._name):
                found.append(one * self.of(other))
            return summed(found)
        if not has_letter(other, self._name):
            return self.of(one)
        last = self.of(other)
        if not has_letter(one, self._name):
            return last if formula.kind == "sum" else -last
        return self.of(one) + last if formula.kind == "sum" else self.of(one) - last

    def _of_power(self, formula, inner):
        base = formula.parts[0]
        last = formula.exponent - 1
        return summed([between(base, inner, before, last - before) for before in range(last + 1)])

    def _entry(self, part):
        return self.of(part) if has_letter(part, self._name) else Zero(part.rows, part.columns)
