"""Closed words, their rotations and their sums."""

from matrixforms.machines import (
    Machine, coefficient_of, filled, scaled_machine, sum_machine, symbols_of, transposed_machine, turned_back,
)
from matrixforms.matrices import Matrix
from matrixforms.ratios import Ratio
from matrixforms.reducing import reduced
from matrixforms.rows import lowest, shifted, table_sum, through


def rotations(word):
    """Return the list of as many rotations of a word as it has symbols."""
    return [word[at:] + word[:at] for at in range(len(word))]


def turned_word(word, symmetries):
    """Return the word turned back, for letters that have these symmetries, by their names."""
    return tuple([turned_back(symbol, symmetries) for symbol in word[::-1]])


def sum_for(machine, word, symmetries):
    """Return the sum of a closed word for a machine, a Ratio."""
    total = Ratio(0)
    for turn in rotations(word):
        total = total + coefficient_of(machine, turn).trace()
    odd = len([symbol for symbol in word if symmetries[symbol[0]] == "skew"]) & 1
    for turn in rotations(turned_word(word, symmetries)):
        more = coefficient_of(machine, turn).trace()
        total = total - more if odd else total + more
    return total


def doubled_machine(machine, symmetries):
    """Return the machine of a form for the sum of a formula and its transpose, for letters with these symmetries.

    The traces of its coefficients for the rotations of a word make the sum of this word.
    """
    return reduced(sum_machine(machine, transposed_machine(machine, symmetries)))[0]


def column_table(table, column):
    """Return the table with this one column of a table."""
    return {
        index: lowest({0: cells[column]}, bottom) for index, (cells, bottom) in table.items() if column in cells
    }


def closing_machine(machine):
    """Return a machine whose coefficient for a word is the sum of the traces of a machine for all its rotations.

    With N the moves and P the ends times the starts, as matrices, this is the trace of the
    sum of all products of the N for the symbols of the word in which one of them is a P
    instead. So a state here is a place in the product so far, an entry (i, j), before or
    behind the P in it.
    """
    count = len(machine.places)
    area = count * count
    moves = {}
    ends = {}
    for symbol in symbols_of(machine):
        steps = machine.moves.get(symbol, {})
        turns = through(machine.ends.get(symbol, {}), machine.starts)
        both = table_sum(steps, shifted(turns, 0, area))
        table = {}
        last = {}
        for index in range(count):
            at = index * count
            table.update(shifted(both, at, at))
            table.update(shifted(steps, area + at, area + at))
            last.update(shifted(column_table(turns, index), at, 0))
            last.update(shifted(column_table(steps, index), area + at, 0))
        moves[symbol] = table
        ends[symbol] = last
    starts = {0: ({index * count + index: 1 for index in range(count)}, 1)} if count else {}
    places = machine.places * (2 * count)
    return Machine((("",), ("",)), Matrix.zero(1, 1), places, starts, filled(moves), filled(ends))


def unlike_sums(one, other):
    """Return a machine whose coefficient for a word is its sum for one doubled machine less that for another one."""
    return sum_machine(closing_machine(one), scaled_machine(Ratio(-1), closing_machine(other)))
