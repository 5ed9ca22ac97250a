"""What a reader consists of, and how those of formulas are made of those of their parts."""

from matrixforms.matrices import Matrix, stacked
from matrixforms.ratios import Ratio
from matrixforms.rows import flipped, matrix_of, shifted, table_of, table_sum, table_times, through, unit


class Machine:
    """The numbers of a reader, in tables of rows (see rows).

    sides is the pair of the rows and columns, core the middle, places has the names of the
    states. starts is a table; moves and ends are dicts from symbols to tables by states,
    with no table without rows.
    """

    def __init__(self, sides, core, places, starts, moves, ends):
        self.sides = sides
        self.core = core
        self.places = places
        self.starts = starts
        self.moves = moves
        self.ends = ends


def equal_machines(one, other):
    """Tell whether two machines have the same numbers at the same places."""
    return (
        one.sides == other.sides and one.core == other.core and one.places == other.places
        and one.starts == other.starts and one.moves == other.moves and one.ends == other.ends
    )


def symbols_of(machine):
    """Return the ascending list of the symbols for which a move or an end is not 0."""
    return sorted(set([*machine.moves, *machine.ends]))


def coefficient_of(machine, word):
    """Return the coefficient of a word, a Matrix."""
    if not word:
        return machine.core
    table = machine.starts
    for symbol in word[:-1]:
        table = through(table, machine.moves.get(symbol, {}))
    table = through(table, machine.ends.get(word[-1], {}))
    return matrix_of(table, len(machine.sides[0]), len(machine.sides[1]))


def filled(tables):
    """Return those of these tables, by symbols, that have rows."""
    return {symbol: table for symbol, table in tables.items() if table}


def all_through(tables, other):
    """Return the products of these tables, by symbols, with another one."""
    return filled({symbol: through(table, other) for symbol, table in tables.items()})


def all_shifted(tables, down, right):
    """Return these tables, by symbols, moved down and to the right."""
    return {symbol: shifted(table, down, right) for symbol, table in tables.items()}


def all_sums(one, other):
    """Return the sums of the tables of both for each symbol."""
    return filled({
        symbol: table_sum(one.get(symbol, {}), other.get(symbol, {})) for symbol in [*one, *other]
    })


def constant_machine(sides, core):
    """Return the machine of a formula that is its middle alone."""
    return Machine(sides, core, (), {}, {}, {})


def letter_machine(letter):
    """Return the machine of a letter."""
    ends = {(letter.name, False): {0: unit(0)}}
    return Machine((letter.rows, letter.columns), letter.middle, letter.rows, {0: unit(0)}, {}, ends)


def sum_machine(one, other):
    """Return the machine of the sum of two formulas."""
    count = len(one.places)
    starts = table_sum(one.starts, shifted(other.starts, 0, count))
    moves = all_sums(one.moves, all_shifted(other.moves, count, count))
    ends = all_sums(one.ends, all_shifted(other.ends, count, 0))
    return Machine(one.sides, one.core + other.core, one.places + other.places, starts, moves, ends)


def scaled_machine(number, one):
    """Return the machine of a Ratio times a formula."""
    return Machine(one.sides, one.core * number, one.places, table_times(one.starts, number), one.moves, one.ends)


def difference_machine(one, other):
    """Return the machine of the difference of two formulas."""
    return sum_machine(one, scaled_machine(Ratio(-1), other))


def sum_of_multiples(machines, numbers):
    """Return the machine of the sum of numbers times formulas, made from the left."""
    found = scaled_machine(numbers[0], machines[0])
    for number, machine in zip(numbers[1:], machines[1:]):
        found = sum_machine(found, scaled_machine(number, machine))
    return found


def product_machine(one, other):
    """Return the machine of the product of two formulas."""
    count = len(one.places)
    behind = shifted(other.starts, 0, count)
    starts = table_sum(one.starts, through(table_of(one.core), behind))
    moves = all_sums(one.moves, all_through(one.ends, behind))
    moves = all_sums(moves, all_shifted(other.moves, count, count))
    ends = all_through(one.ends, table_of(other.core))
    ends = all_sums(ends, all_shifted(other.ends, count, 0))
    sides = (one.sides[0], other.sides[1])
    return Machine(sides, one.core * other.core, one.places + other.places, starts, moves, ends)


def inverse_machine(one):
    """Return the machine of the inverse of a formula."""
    core = one.core.inverse()
    inner = table_of(core)
    back = table_times(through(inner, one.starts), Ratio(-1))
    moves = all_sums(one.moves, all_through(one.ends, back))
    return Machine(one.sides, core, one.places, back, moves, all_through(one.ends, inner))


def turned_back(symbol, symmetries):
    """Return the symbol for the transposed deviation of another one."""
    if symmetries[symbol[0]] == "plain":
        return (symbol[0], not symbol[1])
    return symbol


def transposed_machine(one, symmetries):
    """Return the machine of the transpose of a formula whose letters have these symmetries, by their names."""
    count = len(one.sides[1])
    left = shifted(flipped(one.starts), count, 0)
    moves = {}
    ends = {}
    for symbol in symbols_of(one):
        # A number leads to the state that it came from; the columns have states of their own.
        table = table_sum(
            shifted(flipped(one.ends.get(symbol, {})), 0, count),
            shifted(flipped(one.moves.get(symbol, {})), count, count),
        )
        if symmetries[symbol[0]] == "skew":
            table = table_times(table, Ratio(-1))
        turned = turned_back(symbol, symmetries)
        moves[turned] = table
        ends[turned] = through(table, left)
    starts = {index: unit(index) for index in range(count)}
    sides = (one.sides[1], one.sides[0])
    return Machine(sides, one.core.transposed, one.sides[1] + one.places, starts, filled(moves), filled(ends))


def power_machine(one, exponent):
    """Return the machine of the product of so many equal factors."""
    found = one
    for _ in range(exponent - 1):
        found = product_machine(found, one)
    return found


def blocks_machine(table):
    """Return the machine of the block matrix of a table of formulas, given as one of machines."""
    places = ()
    starts = {}
    moves = {}
    ends = {}
    top = 0
    for line in table:
        left = 0
        for one in line:
            count = len(places)
            places = places + one.places
            starts = table_sum(starts, shifted(one.starts, top, count))
            moves = all_sums(moves, all_shifted(one.moves, count, count))
            ends = all_sums(ends, all_shifted(one.ends, count, left))
            left += len(one.sides[1])
        top += len(line[0].sides[0])
    rows = tuple([name for parts in table for name in parts[0].sides[0]])
    columns = tuple([name for part in table[0] for name in part.sides[1]])
    core = stacked([[part.core for part in parts] for parts in table])
    return Machine((rows, columns), core, places, starts, moves, ends)


def corner_machine(one, row, column):
    """Return the machine of one block of a formula."""
    starts = {0: one.starts[row]} if row in one.starts else {}
    ends = all_through(one.ends, {column: unit(0)})
    sides = ((one.sides[0][row],), (one.sides[1][column],))
    return Machine(sides, Matrix(((one.core[row, column],),)), one.places, starts, one.moves, ends)


def composed_of_one(formula, one):
    """Return the machine of a formula that is made of one other formula, which has this machine."""
    if formula.kind == "scaled":
        return scaled_machine(formula.number, one)
    if formula.kind == "transposed":
        return transposed_machine(one, {letter.name: letter.symmetry for letter in formula.letters})
    if formula.kind == "inverse":
        return inverse_machine(one)
    if formula.kind == "power":
        return power_machine(one, formula.exponent)
    return corner_machine(one, formula.row, formula.column)


def composed(formula, parts):
    """Return the machine of a formula whose parts have these machines."""
    if formula.kind == "letter":
        return letter_machine(formula)
    if formula.kind in ("eye", "zero"):
        return constant_machine((formula.rows, formula.columns), formula.middle)
    if formula.kind == "sum":
        return sum_machine(parts[0], parts[1])
    if formula.kind == "difference":
        return difference_machine(parts[0], parts[1])
    if formula.kind == "product":
        return product_machine(parts[0], parts[1])
    if formula.kind == "blocks":
        width = len(formula.table[0])
        return blocks_machine([parts[start:start + width] for start in range(0, len(parts), width)])
    return composed_of_one(formula, parts[0])


def plain_machine(formula):
    """Return the machine of the plain reader of a formula."""
    return composed(formula, [plain_machine(part) for part in formula.parts])
