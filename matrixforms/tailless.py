"""Finds the rows of numbers of states that are reached by words but have no tail."""

from math import lcm

from matrixforms.machines import Machine
from matrixforms.reducing import telling_columns
from matrixforms.rows import mixed, through
from matrixforms.spans import shortened


def within(machine, span):
    """Return the machine whose states are the rows of the basis of a span that holds the reader of another one."""
    pivots = span.pivots()
    rows = {at: (span.basis_row(pivot), 1) for at, pivot in enumerate(pivots)}
    # A row in the span is mixed of those of the basis according to its numbers at their pivots.
    worths = {pivot: ({at: 1}, rows[at][0][pivot]) for at, pivot in enumerate(pivots)}
    starts = through(machine.starts, worths)
    moves = {symbol: through(through(rows, table), worths) for symbol, table in machine.moves.items()}
    ends = {symbol: through(rows, table) for symbol, table in machine.ends.items()}
    places = tuple([machine.places[pivot] for pivot in pivots])
    return Machine(machine.sides, machine.core, places, starts, moves, ends)


def untold(span, count):
    """Return a list of independent rows of so many integers for which the sum with each column of a span is 0."""
    columns = [(pivot, span.basis_row(pivot)) for pivot in span.pivots()]
    pivots = [pivot for pivot, _ in columns]
    found = []
    for free in range(count):
        if free not in pivots:
            used = [(pivot, column) for pivot, column in columns if free in column]
            scale = 1
            for pivot, column in used:
                scale = lcm(scale, column[pivot])
            cells = {pivot: -column[free] * (scale // column[pivot]) for pivot, column in used}
            found.append({**cells, free: scale})
    return found


def tailless(machine, span):
    """Return a list of the cells of independent rows that make up what has no tail in a span that holds the reader."""
    inner = within(machine, span)
    rows = {at: (span.basis_row(pivot), 1) for at, pivot in enumerate(span.pivots())}
    return [shortened(mixed((cells, 1), rows)[0]) for cells in untold(telling_columns(inner), len(inner.places))]
