"""Readers: what reads the coefficients of a formula, word by word."""

from matrixforms.errors import InvalidIndex
from matrixforms.formulas import check_formula
from matrixforms.machines import coefficient_of, plain_machine, symbols_of
from matrixforms.names import is_index
from matrixforms.rows import numbers_of
from matrixforms.words import check_word, is_symbol


class Reader:
    """A reader, made of a machine. It never changes."""

    def __init__(self, machine):
        self._machine = machine
        self._symbols = tuple(symbols_of(machine))
        self._names = machine.places

    @property
    def rows(self):
        """The side of the rows."""
        return self._machine.sides[0]

    @property
    def columns(self):
        """The side of the columns."""
        return self._machine.sides[1]

    @property
    def middle(self):
        """The coefficient of the empty word, a Matrix."""
        return self._machine.core

    @property
    def names(self):
        """The tuple of the size names of the states."""
        return self._names

    @property
    def symbols(self):
        """The ascending tuple of the symbols for which a move or an end is not 0."""
        return self._symbols

    def start_row(self, index):
        """Return the numbers of the states before a word, for this index of the rows."""
        if not is_index(index, len(self.rows)):
            raise InvalidIndex(index)
        return self._row_at(self._machine.starts, index, len(self._names))

    def move_row(self, state, symbol):
        """Return the numbers of the states to which this symbol leads from a state."""
        self._check_state(state)
        table = self._machine.moves.get(symbol, {}) if is_symbol(symbol) else {}
        return self._row_at(table, state, len(self._names))

    def end_row(self, state, symbol):
        """Return the numbers of the columns with which this symbol, as the last one, ends from a state."""
        self._check_state(state)
        table = self._machine.ends.get(symbol, {}) if is_symbol(symbol) else {}
        return self._row_at(table, state, len(self.columns))

    def coefficient(self, word):
        """Return the coefficient of a word, a Matrix."""
        check_word(word)
        return coefficient_of(self._machine, word)

    def _check_state(self, state):
        if not is_index(state, len(self._names)):
            raise InvalidIndex(state)

    def _row_at(self, table, index, count):
        return numbers_of(table.get(index, ({}, 1)), count)

    def __len__(self):
        return len(self._names)

    def __eq__(self, other):
        # A reader equals itself alone: the machine has no equality of its own.
        return isinstance(other, Reader) and self._machine == other._machine


def plain_reader(formula):
    """Return the plain reader of a formula."""
    check_formula(formula)
    return Reader(plain_machine(formula))
