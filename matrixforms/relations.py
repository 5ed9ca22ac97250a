"""All linear relations that hold between formulas."""

from matrixforms.errors import InvalidSize
from matrixforms.formulas import check_formula
from matrixforms.machines import blocks_machine
from matrixforms.meeting import check_equal_sides, joined_letters
from matrixforms.ranks import all_formed
from matrixforms.ratios import Ratio
from matrixforms.reducing import quotient
from matrixforms.rows import row_of, shifted, sum_of
from matrixforms.spans import Span


def check_all(formulas):
    """Raise the error that values have that are no formulas with equal sides and fitting letters."""
    for formula in formulas:
        check_formula(formula)
    if not formulas:
        raise InvalidSize(0)
    joined_letters(formulas)
    for formula in formulas:
        check_equal_sides(formulas[0], formula)


def told_apart(machines):
    """Return a row for each of these machines, such as have the relations of the formulas, and their length."""
    count = len(machines[0].sides[0])
    whole = quotient(blocks_machine([[one] for one in machines]))
    width = len(whole.places)
    found = []
    for at, one in enumerate(machines):
        middle = row_of([number for numbers in one.core.entries for number in numbers])
        row = shifted({0: middle}, 0, count * width)[0]
        for index in range(count):
            start = whole.starts.get(at * count + index, ({}, 1))
            row = sum_of(row, shifted({0: start}, 0, index * width)[0])
        found.append(row)
    return found, count * (width + len(machines[0].sides[1]))


def reduced_basis(rows, length):
    """Return the reduced basis of the relations between rows of this length."""
    span = Span()
    found = []
    for index in reversed(range(len(rows))):
        cells, bottom = rows[index]
        # The cells behind the length tell of which rows the rest of a row is mixed.
        rest = span.reduced({**cells, length + index: bottom})
        if min(list(rest)) < length:
            span.keep(rest)
        else:
            lead = rest[length + index]
            found.append(tuple([Ratio(rest.get(length + other, 0), lead) for other in range(len(rows))]))
    return tuple(found[::-1])


def basis_of(formulas):
    """Return the reduced basis of the relations between one or more formulas with equal sides."""
    rows, length = told_apart(all_formed(formulas))
    return reduced_basis(rows, length)


def relations(*formulas):
    """Return the reduced basis of the relations between these formulas."""
    check_all(formulas)
    return basis_of(formulas)


def combination(formula, *formulas):
    """Return the numbers of these formulas of which the first one is a combination, None if it is none."""
    every = (formula, *formulas)
    check_all(every)
    basis = basis_of(every)
    if not (basis and basis[0][0]):
        return None
    return tuple([-number for number in basis[0][1:]])
