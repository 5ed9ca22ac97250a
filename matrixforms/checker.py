"""Checks claims with their certificates, whoever wrote them.

Nothing is taken over but what they say: plain readers, values and coefficients are found
here anew.
"""

from matrixforms.errors import NoValue
from matrixforms.machines import coefficient_of, difference_machine, plain_machine, sum_of_multiples
from matrixforms.meeting import joined_sizes
from matrixforms.ratios import Ratio, is_whole
from matrixforms.reducing import column_through
from matrixforms.rows import columns_of, flipped, mixed, row_of, table_of
from matrixforms.searching import keep_new, led_on
from matrixforms.spans import Span
from matrixforms.understood import (
    are_places, formulas_understood, is_tuple_of, letters_understood, matrices_understood, rows_understood,
    sizes_understood,
)
from matrixforms.values import value


class Combinations:
    """All combinations of rows that a certificate has for a machine."""

    def __init__(self, machine, rows):
        self._machine = machine
        self._span = Span()
        # What holds for these, which are independent, holds for all their combinations.
        self._rows = keep_new(self._span, [row_of(numbers) for numbers in rows])

    def dimension(self):
        """Return the number of independent rows."""
        return len(self._rows)

    def holds(self):
        """Tell whether the rows hold the reader."""
        return self._has_all(list(self._machine.starts.values())) and self._has_moves()

    def is_blind(self):
        """Tell whether the rows are blind for the reader."""
        return self._has_moves() and not any([led_on(self._rows, table) for table in list(self._machine.ends.values())])

    def is_within(self, other):
        """Tell whether each row is a combination of those of another one."""
        return other._has_all(self._rows)

    def _has_all(self, rows):
        return not any([self._span.reduced(row[0]) for row in rows])

    def _has_moves(self):
        return all([self._has_all(led_on(self._rows, table)) for table in list(self._machine.moves.values())])


def are_independent(rows):
    """Tell whether no row is a combination of others."""
    return len(keep_new(Span(), rows)) == len(rows)


def shows_zero(machine, rows):
    """Tell whether rows show that all coefficients of a machine are 0, the middle included."""
    found = Combinations(machine, rows)
    return found.holds() and found.is_blind() and not table_of(machine.core)


def accepts_same(letters, text, other, certificate):
    """Tell whether rows show that two formulas are the same."""
    formulas = formulas_understood((text, other), letters)
    if formulas is None:
        return False
    machine = difference_machine(plain_machine(formulas[0]), plain_machine(formulas[1]))
    rows = rows_understood(certificate, len(machine.places))
    return rows is not None and shows_zero(machine, rows)


def accepts_different(letters, text, other, certificate):
    """Tell whether sizes and matrices show that two formulas are not the same."""
    formulas = formulas_understood((text, other), letters)
    if formulas is None or not is_tuple_of(certificate, 2):
        return False
    sizes = sizes_understood(certificate[0], joined_sizes(formulas))
    if sizes is None:
        return False
    matrices = matrices_understood(certificate[1], letters, sizes)
    return matrices is not None and have_unlike_values(formulas, lessened(sizes, letters), matrices)


def lessened(sizes, letters):
    """Return the sizes with 1 for each name that no letter has.

    For such a name there are only multiples of an identity matrix in all formulas, so values
    exist, and are equal, for each of its sizes or for none. And it could be given any size.
    """
    names = [name for letter in letters for name in (letter.rows[0], letter.columns[0])]
    return {name: size if name in names else 1 for name, size in sizes.items()}


def have_unlike_values(formulas, sizes, matrices):
    """Tell whether two formulas have values that are not equal."""
    try:
        values = [value(formula, sizes, matrices) for formula in formulas]
    except NoValue:
        return False
    return not values[0] == values[1]


def row_before(machine, word, index):
    """Return the row of numbers of states behind a word, for an index of the rows."""
    found = machine.starts.get(index, ({}, 1))
    for symbol in word:
        found = mixed(found, machine.moves.get(symbol, {}))
    return found


def column_behind(machine, word, index):
    """Return a positive multiple of the column of what a word makes of each state, at an index of the columns."""
    column = columns_of(machine.ends.get(word[-1], {}))[0].get(index, {})
    for symbol in word[-2::-1]:
        column = column_through(columns_of(machine.moves.get(symbol, {}))[0], column)
    return column


def accepts_rank(letters, text, rank, certificate):
    """Tell whether rows, words before and words behind show that a formula has this rank."""
    formulas = formulas_understood((text,), letters)
    if formulas is None or not (is_whole(rank) and rank >= 0 and is_tuple_of(certificate, 4)):
        return False
    formula = formulas[0]
    machine = plain_machine(formula)
    holding, blind = [rows_understood(rows, len(machine.places)) for rows in certificate[:2]]
    if holding is None or blind is None:
        return False
    before, behind = certificate[2:]
    if not are_places(before, rank, letters, (len(formula.rows),)):
        return False
    if not are_places(behind, rank, letters, (len(formula.columns),)) or () in [place[0] for place in behind]:
        return False
    upper, lower = Combinations(machine, holding), Combinations(machine, blind)
    if not (upper.holds() and lower.is_blind() and lower.is_within(upper)):
        return False
    return upper.dimension() == rank + lower.dimension() and are_told_apart(machine, before, behind)


def are_told_apart(machine, before, behind):
    """Tell whether the table of the coefficients for words before and words behind has an inverse."""
    table = flipped({at: (column_behind(machine, word, index), 1) for at, (word, index) in enumerate(behind)})
    return are_independent([mixed(row_before(machine, word, index), table) for word, index in before])


def pivots_understood(basis):
    """Return the list of the pivots of a reduced basis, None if these relations are none."""
    pivots = []
    for relation in basis:
        places = [at for at, number in enumerate(relation) if number]
        if not places or relation[places[0]] != Ratio(1):
            return None
        pivots.append(places[0])
    if pivots != sorted(set(pivots)):
        return None
    # A relation has its own pivot, and no number at those of the others.
    if any([len([pivot for pivot in pivots if relation[pivot]]) > 1 for relation in basis]):
        return None
    return pivots


def accepts_relations(letters, texts, basis, certificate):
    """Tell whether rows and words show that formulas have this reduced basis of their relations."""
    if not (isinstance(texts, tuple) and isinstance(basis, tuple) and is_tuple_of(certificate, 2)):
        return False
    formulas = formulas_understood(texts, letters)
    relations_told = rows_understood(basis, len(texts))
    if formulas is None or relations_told is None or not is_tuple_of(certificate[0], len(basis)):
        return False
    pivots = pivots_understood(relations_told)
    if pivots is None:
        return False
    machines = [plain_machine(formula) for formula in formulas]
    free = [machine for at, machine in enumerate(machines) if at not in pivots]
    counts = (len(formulas[0].rows), len(formulas[0].columns))
    if not (are_places(certificate[1], len(free), letters, counts) and are_free(free, certificate[1])):
        return False
    return all([
        hold_for(sum_of_multiples(machines, relation), rows) for relation, rows in zip(relations_told, certificate[0])
    ])


def are_free(machines, places):
    """Tell whether the table of the entries at these places of the coefficients of machines has an inverse."""
    return are_independent([
        row_of([coefficient_of(machine, word)[row, column] for machine in machines]) for word, row, column in places
    ])


def hold_for(machine, given):
    """Tell whether what is given are rows that show that all coefficients of a machine are 0."""
    rows = rows_understood(given, len(machine.places))
    return rows is not None and shows_zero(machine, rows)


CHECKS = {
    "same": accepts_same, "different": accepts_different, "rank": accepts_rank, "relations": accepts_relations,
}


def accepts(claim, certificate):
    """Tell whether a claim and a certificate are as they have to be, for any values."""
    if not (is_tuple_of(claim, 4) and isinstance(claim[0], str) and claim[0] in CHECKS):
        return False
    letters = letters_understood(claim[1])
    if letters is None:
        return False
    check = CHECKS[claim[0]]
    return check(letters, claim[2], claim[3], certificate)
