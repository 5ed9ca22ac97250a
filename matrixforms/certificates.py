"""Claims about formulas, with certificates that the checker accepts."""

from matrixforms.formulas import check_formula
from matrixforms.machines import (
    blocks_machine, coefficient_of, difference_machine, plain_machine, sum_of_multiples,
)
from matrixforms.meeting import joined_letters
from matrixforms.ranks import all_formed, formed
from matrixforms.relations import relations
from matrixforms.rows import row_of
from matrixforms.sameness import parting
from matrixforms.searching import keep_new, reached, telling_words
from matrixforms.spans import Span
from matrixforms.tailless import tailless
from matrixforms.told import letter_as_told, matrix_told, number_told, row_told


def letters_told(formulas):
    """Tell the letters of formulas."""
    return tuple([letter_as_told(letter) for letter in joined_letters(formulas)])


def rows_of_span(span):
    """Return the list of the cells of the rows of the basis of a span."""
    return [span.basis_row(pivot) for pivot in span.pivots()]


def rows_told(rows, machine):
    """Tell rows of numbers of the states of a machine, given by their cells."""
    return tuple([row_told(cells, len(machine.places)) for cells in rows])


def reached_told(machine):
    """Tell the rows to which words lead in a machine."""
    return rows_told(rows_of_span(reached(machine)), machine)


def certify(formula, other):
    """Return the claim that two formulas are the same, or that they are not, with its certificate."""
    found = parting(formula, other)
    letters = letters_told((formula, other))
    if found is None:
        machine = difference_machine(plain_machine(formula), plain_machine(other))
        return ("same", letters, str(formula), str(other)), reached_told(machine)
    sizes = tuple([(name, size) for name, size in found.sizes.items()])
    matrices = tuple([matrix_told(matrix) for matrix in list(found.matrices.values())])
    return ("different", letters, str(formula), str(other)), (sizes, matrices)


def certify_rank(formula):
    """Return the claim of the rank of a formula, with its certificate."""
    check_formula(formula)
    machine, kept = formed(formula, {})
    behind = tuple([(word, index) for word, index, _ in telling_words(machine)])
    whole = plain_machine(formula)
    span = reached(whole)
    holding = rows_told(rows_of_span(span), whole)
    blind = rows_told(tailless(whole, span), whole)
    claim = ("rank", letters_told((formula,)), str(formula), len(kept))
    return claim, (holding, blind, kept, behind)


def free_places(machines):
    """Return a word and indexes of the rows and columns for each of these machines, by which they are told apart.

    The machines are those of formulas between which there is no relation.
    """
    if not machines:
        return ()
    words = {(): True}
    for word, _, _ in telling_words(blocks_machine([[machine] for machine in machines])):
        words[word] = True
    span = Span()
    found = []
    for word in list(words):
        tables = [coefficient_of(machine, word) for machine in machines]
        for row in range(tables[0].rows):
            for column in range(tables[0].columns):
                if keep_new(span, [row_of([table[row, column] for table in tables])]):
                    found.append((word, row, column))
        if len(found) == len(machines):
            break
    return tuple(found)


def pivot_of(relation):
    """Return the index of the first number of a relation that is not 0."""
    return [at for at, number in enumerate(relation) if number][0]


def certify_relations(*formulas):
    """Return the claim of all linear relations between formulas, with its certificate."""
    basis = relations(*formulas)
    pivots = [pivot_of(relation) for relation in basis]
    formed_machines = all_formed(formulas)
    places = free_places([machine for at, machine in enumerate(formed_machines) if at not in pivots])
    machines = [plain_machine(formula) for formula in formulas]
    spans = tuple([reached_told(sum_of_multiples(machines, relation)) for relation in basis])
    told = tuple([tuple([number_told(number) for number in relation]) for relation in basis])
    claim = ("relations", letters_told(formulas), tuple([str(formula) for formula in formulas]), told)
    return claim, (spans, places)
