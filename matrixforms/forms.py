"""Forms: equal exactly for formulas that are the same."""

from matrixforms.errors import InvalidSize
from matrixforms.formulas import check_formula
from matrixforms.machines import coefficient_of, equal_machines, plain_machine, symbols_of
from matrixforms.meeting import letter_called
from matrixforms.ranks import formed
from matrixforms.ratios import is_whole
from matrixforms.readers import Reader
from matrixforms.reducing import longest_word
from matrixforms.rows import matrix_of, table_of, through
from matrixforms.words import check_word
from matrixforms.writing import Writer


class Form:
    """The form of all formulas with the same coefficients. It never changes."""

    def __init__(self, machine, kept, letters):
        self._machine = machine
        self._reader = Reader(machine)
        self._kept = kept
        self._letters = letters

    @property
    def reader(self):
        """The form as a Reader."""
        return self._reader

    @property
    def rank(self):
        """The number of states."""
        return len(self._kept)

    @property
    def kept(self):
        """The tuple of the kept pairs."""
        return self._kept

    @property
    def letters(self):
        """The tuple of the letters of its symbols, ascending by their names."""
        return self._letters

    def written(self):
        """Return a formula with this form in which one inverse stands at most."""
        return Writer(self._machine, self._letters).formula()

    def __eq__(self, other):
        if not isinstance(other, Form):
            return False
        return (
            self._kept == other._kept and self._letters == other._letters
            and equal_machines(self._machine, other._machine)
        )


def letters_in(machine, letters):
    """Return the tuple of those of these letters that have a symbol in a machine."""
    names = {symbol[0]: True for symbol in symbols_of(machine)}
    return tuple([letter for letter in letters if letter.name in names])


def form(formula):
    """Return the form of a formula."""
    check_formula(formula)
    machine, kept = formed(formula, {})
    return Form(machine, kept, letters_in(machine, formula.letters))


def coefficient(formula, word):
    """Return the coefficient of a word, a Matrix."""
    check_formula(formula)
    check_word(word)
    return coefficient_of(plain_machine(formula), word)


def terms(formula, longest):
    """Yield the pairs of a word and its coefficient, for all words of at most so many symbols that have one."""
    check_formula(formula)
    if not (is_whole(longest) and longest >= 0):
        raise InvalidSize(longest)
    machine = formed(formula, {})[0]
    rows, columns = len(machine.sides[0]), len(machine.sides[1])
    if table_of(machine.core):
        yield ((), machine.core)
    level = [((), machine.starts)] if machine.starts else []
    length = 0
    while level and length < longest:
        length += 1
        following = []
        for word, table in level:
            for symbol in symbols_of(machine):
                ended = through(table, machine.ends.get(symbol, {}))
                if ended:
                    yield ((*word, symbol), matrix_of(ended, rows, columns))
                moved = through(table, machine.moves.get(symbol, {}))
                if moved:
                    following.append(((*word, symbol), moved))
        level = following


def degree(formula):
    """Return the greatest number of symbols of a word with a coefficient other than 0, None if there is none."""
    check_formula(formula)
    return longest_word(formed(formula, {})[0])


def matters(formula, name):
    """Tell whether a word with a symbol of this letter has a coefficient other than 0."""
    check_formula(formula)
    letter_called(formula, name)
    machine = formed(formula, {})[0]
    return name in [symbol[0] for symbol in symbols_of(machine)]
