"""The machines of the forms of formulas, and formulas that are too rich for them."""

from matrixforms.errors import TooRich
from matrixforms.limits import MOST_RANK
from matrixforms.machines import composed, product_machine
from matrixforms.reducing import reduced


def reduced_power(one, exponent):
    """Return the machine of the form of a power, and its kept pairs."""
    # The products on the way there may be richer than the power, so they are not checked.
    found = reduced(one)
    for _ in range(exponent - 1):
        found = reduced(product_machine(found[0], one))
    return found


def formed(formula, known):
    """Return the machine of the form of a formula and its kept pairs; TooRich if it is too rich.

    known has what was found before, by the texts of the formulas, whose letters with equal
    names are equal.
    """
    spelled = str(formula)
    if spelled not in known:
        parts = [formed(part, known)[0] for part in formula.parts]
        if formula.kind == "power":
            found = reduced_power(parts[0], formula.exponent)
        else:
            found = reduced(composed(formula, parts))
        if len(found[1]) > MOST_RANK:
            raise TooRich(MOST_RANK)
        known[spelled] = found
    return known[spelled]


def all_formed(formulas):
    """Return the list of the machines of the forms of these formulas, whose letters do not clash."""
    known = {}
    return [formed(formula, known)[0] for formula in formulas]
