"""Gradients of formulas for one of their letters.

The trace of a formula changes by the trace of W * D for each place in it at which the letter
stands, where D is what changes there, and W is made of what stands around it. W is None for
an identity matrix.
"""

from matrixforms.cutting import among_zeros, cut_out
from matrixforms.formulas import Eye, Scaled
from matrixforms.ratios import Ratio
from matrixforms.slopes import between, has_letter, raised_to
from matrixforms.writing import summed


def times(one, other):
    """Return the product of two formulas, each of which can be None for an identity matrix."""
    if one is None:
        return other
    return one if other is None else one * other


def signed(number, around, side):
    """Return a number times what stands around a formula with these rows and columns."""
    return Scaled(number, Eye(side) if around is None else around)


def around_base(around, base, exponent):
    """Return what stands around the factors of a power, all together."""
    last = exponent - 1
    if last == 0:
        return around
    if around is None:
        return Scaled(exponent, raised_to(base, last))
    return summed([between(base, around, last - before, before) for before in range(exponent)])


def around_entry(around, formula, at):
    """Return what stands around the formula with this index in the table of blocks."""
    line, place = divmod(at, len(formula.table[0]))
    top = sum([len(other[0].rows) for other in formula.table[:line]])
    left = sum([len(one.columns) for one in formula.table[0][:place]])
    entry = formula.parts[at]
    whole = Eye(formula.rows) if around is None else around
    # Rows and columns are exchanged around a formula.
    return cut_out(whole, (left, left + len(entry.columns)), (top, top + len(entry.rows)))


def around_part(around, formula, at):
    """Return what stands around the part of a formula with this index."""
    kind, inner = formula.kind, formula.parts[at]
    if kind == "product":
        return times(around, formula.parts[0]) if at else times(formula.parts[1], around)
    if kind == "difference" and at:
        return signed(-1, around, inner.rows)
    if kind == "scaled":
        return signed(formula.number, around, inner.rows)
    if kind == "transposed" and around is not None:
        return around.transposed
    if kind == "inverse":
        return -(times(formula, around) * formula)
    if kind == "power":
        return around_base(around, inner, formula.exponent)
    if kind == "blocks":
        return around_entry(around, formula, at)
    if kind == "corner":
        whole = Eye(formula.rows) if around is None else around
        return among_zeros(whole, (inner.columns, inner.rows), (formula.column, formula.row))
    return around


def around_letter(around, formula, name):
    """Return the list of what stands around the letter with this name at each of its places in a formula."""
    if formula.kind == "letter":
        return [Eye(formula.rows) if around is None else around]
    found = []
    for at, inner in enumerate(formula.parts):
        if has_letter(inner, name):
            found.extend(around_letter(around_part(around, formula, at), inner, name))
    return found


def gradient_for(formula, letter):
    """Return the gradient of a square formula for a letter of it."""
    found = summed(around_letter(None, formula, letter.name))
    if letter.symmetry == "symmetric":
        return Scaled(Ratio(1, 2), found + found.transposed)
    if letter.symmetry == "skew":
        return Scaled(Ratio(1, 2), found.transposed - found)
    return found.transposed
