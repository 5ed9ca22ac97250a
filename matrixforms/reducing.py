"""Finds the kept pairs of a formula and the machine of its form, from any machine that it has."""

from matrixforms.machines import Machine, filled
from matrixforms.rows import columns_of, flipped, lowest, mixed, through, without_empty
from matrixforms.spans import Span


def column_through(columns, column):
    """Return the product of the matrix with these columns, by their indexes, and a column."""
    found = {}
    for place, worth in column.items():
        for index, cell in columns.get(place, {}).items():
            found[index] = found.get(index, 0) + worth * cell
    return found


def telling_columns(machine):
    """Return the span of the columns that tell what words do behind a state.

    The tail of a row of numbers of states is zero exactly if its product with each of these
    columns is. They are the columns of the ends, and those that moves make of such columns.
    """
    span = Span()
    moves = [columns_of(table)[0] for table in list(machine.moves.values())]
    waiting = [column for table in list(machine.ends.values()) for column in list(columns_of(table)[0].values())]
    while waiting and span.dimension() < len(machine.places):
        column = span.reduced(waiting.pop())
        if column:
            span.keep(column)
            waiting.extend([column_through(columns, column) for columns in moves])
    return span


def picked(table, indexes):
    """Return the table of the rows with these indexes, one behind the other."""
    return {place: table[index] for place, index in enumerate(indexes) if index in table}


def quotient(machine):
    """Return a machine with the same coefficients in which only the row without numbers has no tail."""
    span = telling_columns(machine)
    if span.dimension() == len(machine.places):
        return machine
    pivots = span.pivots()
    rows = [span.basis_row(pivot) for pivot in pivots]
    # The tail of each state is such a combination of those of the pivots, which are the states that remain.
    worths = flipped({place: lowest(row, row[pivots[place]]) for place, row in enumerate(rows)})
    moves = {symbol: through(picked(table, pivots), worths) for symbol, table in machine.moves.items()}
    ends = {symbol: picked(table, pivots) for symbol, table in machine.ends.items()}
    places = tuple([machine.places[pivot] for pivot in pivots])
    return Machine(machine.sides, machine.core, places, through(machine.starts, worths), filled(moves), filled(ends))


class Kept:
    """The kept pairs of a machine that `quotient` made, and their tails, as rows of numbers of its states."""

    def __init__(self, machine):
        self._machine = machine
        self._span = Span()
        self.pairs = []
        self.tails = []
        level = [((), [(index, machine.starts[index]) for index in sorted(list(machine.starts))])]
        while level and self._span.dimension() < len(machine.places):
            following = []
            for word, tails in level:
                following.extend(self._longer(word, self._keep(word, tails)))
            level = following

    def mix(self, tail):
        """Return the row of the numbers of kept tails of which this tail is the combination."""
        cells, bottom = tail
        own = self._own_mark()
        found = self._span.reduced({**cells, own: 1})
        first = len(self._machine.places)
        return lowest({mark - first: -cell for mark, cell in found.items() if mark != own}, found[own] * bottom)

    def _own_mark(self):
        # The cells behind those for the states tell of which kept tails a row of the span is mixed.
        return len(self._machine.places) + len(self.pairs)

    def _keep(self, word, tails):
        """Keep those pairs with this word that are to be kept, and return these alone."""
        found = []
        for index, tail in tails:
            cells = self._span.reduced({**tail[0], self._own_mark(): tail[1]})
            if min(list(cells)) < len(self._machine.places):
                self._span.keep(cells)
                self.pairs.append((word, index))
                self.tails.append(tail)
                found.append((index, tail))
        return found

    def _longer(self, word, tails):
        """Return the words with one symbol more, ascending, and with each the tails for it that are not zero."""
        found = []
        for symbol in sorted(list(self._machine.moves)):
            moved = [(index, mixed(tail, self._machine.moves[symbol])) for index, tail in tails]
            moved = [(index, tail) for index, tail in moved if tail[0]]
            if moved:
                found.append(((*word, symbol), moved))
        return found


def reduced(machine):
    """Return the machine of the form that all formulas with the coefficients of a machine have, and the kept pairs."""
    inner = quotient(machine)
    kept = Kept(inner)
    starts = {index: kept.mix(tail) for index, tail in inner.starts.items()}
    moves = {symbol: without_empty({place: kept.mix(mixed(tail, table)) for place, tail in enumerate(kept.tails)})
             for symbol, table in inner.moves.items()}
    ends = {symbol: without_empty({place: mixed(tail, table) for place, tail in enumerate(kept.tails)})
            for symbol, table in inner.ends.items()}
    # All states of which a tail is mixed have the same name.
    places = tuple([inner.places[min(list(tail[0]))] for tail in kept.tails])
    return Machine(machine.sides, machine.core, places, starts, filled(moves), filled(ends)), tuple(kept.pairs)


def longest_word(machine):
    """Return the length of the longest word with a coefficient other than 0, None if there is no longest one.

    The machine is one of a form, so each row of numbers of states has a tail. If there is a
    longest word, the tails behind its beginnings are independent, so it is not longer than
    the number of states.
    """
    rows = list(machine.starts.values())
    length = 0
    while rows:
        if length == len(machine.places):
            return None
        length += 1
        rows = independent([mixed(row, table) for row in rows for table in list(machine.moves.values())])
    return length


def independent(rows):
    """Return a list of independent rows with the same combinations as these."""
    span = Span()
    for row in rows:
        cells = span.reduced(row[0])
        if cells:
            span.keep(cells)
    return [(span.basis_row(pivot), 1) for pivot in span.pivots()]
