"""Solves equations for a letter."""

from matrixforms.errors import InvalidSymmetry, NotSolvable
from matrixforms.formulas import Eye, Scaled, Zero, check_formula
from matrixforms.layers import around_machine, before_machine, behind_machine, with_symbol, without_symbol
from matrixforms.machines import coefficient_of, difference_machine, scaled_machine, symbols_of
from matrixforms.meeting import check_equal_sides, letter_called
from matrixforms.ranks import all_formed
from matrixforms.reducing import reduced
from matrixforms.searching import first_word
from matrixforms.writing import Writer


class Solution:
    """What a formula is made of around a letter, and the formula for which it is zero. It never changes."""

    def __init__(self, machine, formulas, answer):
        self._machine = machine
        self._formulas = formulas
        self._answer = answer

    @property
    def before(self):
        """The formula by which the deviation of the letter is multiplied from the left."""
        return self._formulas[0]

    @property
    def behind(self):
        """The formula by which it is multiplied from the right."""
        return self._formulas[1]

    @property
    def remainder(self):
        """The formula that is added."""
        return self._formulas[2]

    @property
    def answer(self):
        """The solution, a formula."""
        return self._answer

    def __eq__(self, other):
        # A solution equals itself alone: the machine has no equality of its own.
        return isinstance(other, Solution) and self._machine == other._machine


def check_solvable(machine, name):
    """Raise NotSolvable with the first reason against solving for the plain letter with this name."""
    symbol = (name, False)
    if name not in [one[0] for one in symbols_of(machine)]:
        raise NotSolvable("absent", None)
    shown = first_word(with_symbol(machine, (name, True), 1))
    if shown is not None:
        raise NotSolvable("transposed", shown)
    shown = first_word(with_symbol(machine, symbol, 2))
    if shown is not None:
        raise NotSolvable("twice", shown)
    lead = lead_of(machine, symbol)
    if not lead:
        raise NotSolvable("middle", (symbol,))
    every = scaled_machine(lead, with_symbol(machine, symbol, 1))
    shown = first_word(difference_machine(every, around_machine(machine, symbol, lead)))
    if shown is not None:
        raise NotSolvable("sides", shown)


def lead_of(machine, symbol):
    """Return the coefficient of the word of this symbol alone, a Ratio, for one row and one column."""
    return coefficient_of(machine, (symbol,))[0, 0]


def constant_of(letter):
    """Return the formula for the number of a letter: times the identity if it is square, otherwise zero."""
    if letter.about:
        return Scaled(letter.about, Eye(letter.rows))
    return Zero(letter.rows, letter.columns)


def solve(formula, name):
    """Return the Solution of a formula for the plain letter with this name."""
    check_formula(formula)
    letter = letter_called(formula, name)
    if letter.symmetry != "plain":
        raise InvalidSymmetry(letter.symmetry)
    check_equal_sides(formula, letter)
    machine = all_formed((formula,))[0]
    check_solvable(machine, name)
    symbol = (name, False)
    lead = lead_of(machine, symbol)
    machines = (
        before_machine(machine, symbol, lead), behind_machine(machine, symbol, lead), without_symbol(machine, symbol),
    )
    before, behind, rest = [Writer(reduced(one)[0], formula.letters).formula() for one in machines]
    answer = constant_of(letter) - before.inverse() * rest * behind.inverse()
    return Solution(machine, (before, behind, rest), answer)
