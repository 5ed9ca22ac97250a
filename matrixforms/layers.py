"""Machines for the words of another machine in which a symbol stands, for those in which it does not, and for what
stands before and behind it.

For the last ones the machine has one row and one column, and the symbol stands at most once
in its words; lead is the coefficient of the word of this symbol alone.
"""

from matrixforms.machines import Machine, all_shifted, all_sums, all_through, filled
from matrixforms.matrices import Matrix
from matrixforms.ratios import Ratio
from matrixforms.rows import shifted, table_times, through


def others(tables, symbol):
    """Return those of these tables, by symbols, that are not for this symbol."""
    return {other: tables[other] for other in tables if other != symbol}


def without_symbol(machine, symbol):
    """Return the machine for the words in which a symbol does not stand."""
    moves, ends = others(machine.moves, symbol), others(machine.ends, symbol)
    return Machine(machine.sides, machine.core, machine.places, machine.starts, moves, ends)


def with_symbol(machine, symbol, times):
    """Return the machine for the words in which a symbol stands so many times, at least once, or more often."""
    count = len(machine.places)
    moves = {}
    # A state has a copy for each number of times that is to be told apart.
    for layer in range(times + 1):
        here, there = layer * count, min(layer + 1, times) * count
        moves = all_sums(moves, all_shifted(others(machine.moves, symbol), here, here))
        moves = all_sums(moves, {symbol: shifted(machine.moves.get(symbol, {}), here, there)})
    early = {symbol: shifted(machine.ends.get(symbol, {}), (times - 1) * count, 0)}
    ends = all_sums(all_shifted(machine.ends, times * count, 0), early)
    core = Matrix.zero(machine.core.rows, machine.core.columns)
    return Machine(machine.sides, core, machine.places * (times + 1), machine.starts, moves, ends)


def before_machine(machine, symbol, lead):
    """Return the machine for what stands before the symbol, over lead."""
    final = table_times(machine.ends.get(symbol, {}), Ratio(1).over(lead))
    moves = others(machine.moves, symbol)
    sides = (machine.sides[0], machine.sides[0])
    return Machine(sides, Matrix.eye(1), machine.places, machine.starts, moves, all_through(moves, final))


def behind_machine(machine, symbol, lead):
    """Return the machine for what stands behind the symbol."""
    starts = through(machine.starts, machine.moves.get(symbol, {}))
    moves, ends = others(machine.moves, symbol), others(machine.ends, symbol)
    sides = (machine.sides[1], machine.sides[1])
    return Machine(sides, Matrix(((lead,),)), machine.places, starts, moves, ends)


def around_machine(machine, symbol, lead):
    """Return the machine for what stands before the symbol, the symbol, and what stands behind it, times lead."""
    count = len(machine.places)
    final = machine.ends.get(symbol, {})
    behind = shifted(through(machine.starts, machine.moves.get(symbol, {})), 0, count)
    moves = others(machine.moves, symbol)
    moves = all_sums(moves, all_shifted(moves, count, count))
    ends = all_shifted(others(machine.ends, symbol), count, 0)
    moves[symbol] = through(final, behind)
    ends[symbol] = table_times(final, lead)
    return Machine(machine.sides, Matrix.zero(1, 1), machine.places * 2, machine.starts, filled(moves), filled(ends))
