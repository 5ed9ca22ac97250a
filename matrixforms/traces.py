"""Decides whether formulas have equal traces, and derives traces."""

from matrixforms.errors import InvalidWord, TooRich
from matrixforms.formulas import check_formula
from matrixforms.gradients import gradient_for
from matrixforms.limits import MOST_TRACE_RANK
from matrixforms.machines import plain_machine
from matrixforms.meeting import check_square, joined_letters, letter_called
from matrixforms.ranks import all_formed
from matrixforms.ratios import Ratio
from matrixforms.searching import first_word
from matrixforms.turning import doubled_machine, sum_for, unlike_sums
from matrixforms.words import is_closed_word


def check_two_traces(formula, other):
    """Raise the error that two values have that are no square formulas with fitting letters."""
    check_formula(formula)
    check_formula(other)
    check_square(formula)
    check_square(other)
    joined_letters((formula, other))


def symmetries_of(letters):
    """Return the dict from the names of letters to their symmetries."""
    return {letter.name: letter.symmetry for letter in letters}


def shares_of(formula):
    """Return the dict from the size names of the rows of a square formula to their shares."""
    found = {}
    for index, name in enumerate(formula.rows):
        found[name] = found.get(name, Ratio(0)) + formula.middle[index, index]
    return found


def unlike_share(formula, other):
    """Return the least size name with unlike shares, and both of these, None if there is none."""
    one, another = shares_of(formula), shares_of(other)
    for name in sorted(set([*formula.rows, *other.rows])):
        shares = (one.get(name, Ratio(0)), another.get(name, Ratio(0)))
        if shares[0] != shares[1]:
            return (name, *shares)
    return None


def trace_parting(formula, other):
    """Return None if two formulas have equal traces, otherwise what is unlike: a share or the sum of a word."""
    check_two_traces(formula, other)
    machines = all_formed((formula, other))
    symmetries = symmetries_of(joined_letters((formula, other)))
    doubled = [doubled_machine(machine, symmetries) for machine in machines]
    if sum([len(machine.places) for machine in doubled]) > MOST_TRACE_RANK:
        raise TooRich(MOST_TRACE_RANK)
    found = unlike_share(formula, other)
    if found is not None:
        return found
    word = first_word(unlike_sums(doubled[0], doubled[1]))
    if word is None:
        return None
    return (word, sum_for(machines[0], word, symmetries), sum_for(machines[1], word, symmetries))


def equal_traces(formula, other):
    """Tell whether two formulas have equal traces."""
    return trace_parting(formula, other) is None


def trace_sum(formula, word):
    """Return the sum of a closed word in a square formula."""
    check_formula(formula)
    check_square(formula)
    if not is_closed_word(word, formula.letters):
        raise InvalidWord(word)
    return sum_for(plain_machine(formula), word, symmetries_of(formula.letters))


def gradient(formula, name):
    """Return the gradient of a square formula for the letter with this name."""
    check_formula(formula)
    check_square(formula)
    return gradient_for(formula, letter_called(formula, name))
