"""Writes a formula for a form, with one inverse at most."""

from matrixforms.formulas import Blocks, Eye, Inverse, Scaled, Transposed, Zero
from matrixforms.machines import symbols_of
from matrixforms.ratios import Ratio
from matrixforms.rows import table_of


def number_at(table, index, place):
    """Return the number at a place of a row of a table, a Ratio."""
    cells, bottom = table.get(index, ({}, 1))
    return Ratio(cells.get(place, 0), bottom)


def summed(formulas):
    """Return the sum of one or more formulas, with as few levels as possible."""
    rest = formulas
    while len(rest) > 1:
        pairs = [rest[at] + rest[at + 1] for at in range(0, len(rest) - 1, 2)]
        rest = [*pairs, rest[-1]] if len(rest) - 2 * len(pairs) else pairs
    return rest[0]


def multiple(number, formula):
    """Return a number times a formula."""
    return formula if number == Ratio(1) else Scaled(number, formula)


def constant_entry(number, row_name, column_name):
    """Return the formula with one block that is a number times an identity matrix, or zero."""
    if number:
        return multiple(number, Eye(row_name))
    return Zero(row_name, column_name)


def constant_blocks(table, rows, columns):
    """Return the formula with these sides that is its middle alone, which has the numbers of a table."""
    return Blocks(tuple([
        tuple([constant_entry(number_at(table, i, j), name, other) for j, other in enumerate(columns)])
        for i, name in enumerate(rows)
    ]))


class Writer:
    """Writes the formula for a form with this machine and these letters."""

    def __init__(self, machine, letters):
        self._machine = machine
        self._letters = {letter.name: letter for letter in letters}
        self._symbols = symbols_of(machine)

    def formula(self):
        """Return the formula: the middle, and the starts times the inverse for the moves times the ends."""
        rows, columns = self._machine.sides
        places = self._machine.places
        core = table_of(self._machine.core)
        if not places:
            return constant_blocks(core, rows, columns)
        found = constant_blocks(self._machine.starts, rows, places)
        if self._machine.moves:
            found = found * Inverse(self._blocks(self._machine.moves, places, Ratio(-1), Ratio(1)))
        found = found * self._blocks(self._machine.ends, columns, Ratio(1), Ratio(0))
        return found + constant_blocks(core, rows, columns) if core else found

    def _blocks(self, tables, columns, factor, diagonal):
        """Return the blocks of the factor times the deviations in these tables, and of a multiple of the identity."""
        return Blocks(tuple([
            tuple([
                self._entry(tables, factor, (i, j), diagonal if i == j else Ratio(0), (name, other))
                for j, other in enumerate(columns)
            ])
            for i, name in enumerate(self._machine.places)
        ]))

    def _entry(self, tables, factor, at, constant, names):
        """Return one block: multiples of letters, less those of their numbers, and of the identity."""
        found = []
        for symbol in self._symbols:
            number = number_at(tables.get(symbol, {}), at[0], at[1]) * factor
            if number:
                letter = self._letters[symbol[0]]
                found.append(multiple(number, Transposed(letter) if symbol[1] else letter))
                constant = constant - number * letter.about
        if constant or not found:
            found.append(constant_entry(constant, names[0], names[1]))
        return summed(found)
