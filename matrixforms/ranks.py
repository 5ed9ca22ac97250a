"""The machines of the forms of formulas, and formulas that are too rich for them."""

from matrixforms.errors import TooRich
from matrixforms.limits import MOST_RANK
from matrixforms.machines import composed
from matrixforms.reducing import reduced


def formed(formula, known):
    """Return the machine of the form of a formula and its kept pairs; TooRich if it is too rich.

    known has what was found before, by the texts of the formulas, whose letters with equal
    names are equal.
    """
    spelled = str(formula)
    if spelled not in known:
        # The products on the way to a power do not count, so a power is reduced as a whole.
        found = reduced(composed(formula, [formed(part, known)[0] for part in formula.parts]))
        if len(found[1]) > MOST_RANK:
            raise TooRich(MOST_RANK)
        known[spelled] = found
    return known[spelled]


def all_formed(formulas):
    """Return the list of the machines of the forms of these formulas, whose letters do not clash."""
    known = {}
    return [formed(formula, known)[0] for formula in formulas]
