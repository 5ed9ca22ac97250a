"""What the document says of formulas, worked out anew in the plainest way, with Python's own fractions.

A table here is a list of lists of fractions. Nothing of the package is used but the
properties of formulas.
"""

from fractions import Fraction
from itertools import product


class NoInverse(Exception):
    """The table has no inverse."""


def fraction(ratio):
    return Fraction(ratio.top, ratio.bottom)


def table_of(matrix):
    return [[fraction(number) for number in row] for row in matrix.entries]


def zeros(rows, columns):
    return [[Fraction(0)] * columns for _ in range(rows)]


def identity(size):
    return [[Fraction(int(i == j)) for j in range(size)] for i in range(size)]


def plus(one, other, factor=1):
    return [[x + factor * y for x, y in zip(row, more)] for row, more in zip(one, other)]


def times(one, other):
    return [[sum((x * y for x, y in zip(row, column)), Fraction(0)) for column in zip(*other)] for row in one]


def scaled(number, one):
    return [[number * x for x in row] for row in one]


def flipped(one):
    return [list(column) for column in zip(*one)]


def is_zero(one):
    return not any(x for row in one for x in row)


def inverse(one):
    size = len(one)
    rows = [list(row) + unit for row, unit in zip(one, identity(size))]
    for k in range(size):
        at = next((r for r in range(k, size) if rows[r][k]), None)
        if at is None:
            raise NoInverse()
        rows[k], rows[at] = rows[at], rows[k]
        lead = rows[k][k]
        rows[k] = [x / lead for x in rows[k]]
        for r in range(size):
            if r != k and rows[r][k]:
                factor = rows[r][k]
                rows[r] = [x - factor * y for x, y in zip(rows[r], rows[k])]
    return [row[size:] for row in rows]


def trace(one):
    return sum((one[k][k] for k in range(len(one))), Fraction(0))


def rank(rows):
    """The rank of a list of rows."""
    rows = [list(row) for row in rows]
    found = 0
    for k in range(len(rows[0]) if rows else 0):
        at = next((r for r in range(found, len(rows)) if rows[r][k]), None)
        if at is None:
            continue
        rows[found], rows[at] = rows[at], rows[found]
        for r in range(found + 1, len(rows)):
            if rows[r][k]:
                factor = rows[r][k] / rows[found][k]
                rows[r] = [x - factor * y for x, y in zip(rows[r], rows[found])]
        found += 1
    return found


def mixture(rows, target):
    """The numbers of independent rows of which the target is the combination, None if it is none."""
    basis = []
    for index, row in enumerate(list(rows) + [target]):
        row = list(row)
        marks = [Fraction(int(index == k)) for k in range(len(rows) + 1)]
        for pivot, other, others in basis:
            if row[pivot]:
                factor = row[pivot]
                row = [x - factor * y for x, y in zip(row, other)]
                marks = [x - factor * y for x, y in zip(marks, others)]
        pivot = next((k for k, x in enumerate(row) if x), None)
        if index == len(rows):
            return None if pivot is not None else [-x for x in marks[:-1]]
        lead = row[pivot]
        basis.append((pivot, [x / lead for x in row], [x / lead for x in marks]))


def blocks(tables):
    found = []
    for line in tables:
        for parts in zip(*line):
            found.append([x for part in parts for x in part])
    return found


def tabled(formula, parts):
    width = len(formula.table[0])
    return [parts[k:k + width] for k in range(0, len(parts), width)]


# Values (point 9): sizes as a dict, matrices as a dict of tables.

def value(formula, sizes, matrices, invert=inverse):
    """The value as a table; NoInverse if there is none."""
    kind = formula.kind
    parts = [value(part, sizes, matrices, invert) for part in formula.parts]
    if kind == "letter":
        return matrices[formula.name]
    if kind == "eye":
        return identity(sum(sizes[name] for name in formula.rows))
    if kind == "zero":
        return zeros(sum(sizes[name] for name in formula.rows), sum(sizes[name] for name in formula.columns))
    if kind == "sum":
        return plus(*parts)
    if kind == "difference":
        return plus(*parts, factor=-1)
    if kind == "scaled":
        return scaled(fraction(formula.number), parts[0])
    if kind == "product":
        return times(*parts)
    if kind == "transposed":
        return flipped(parts[0])
    if kind == "inverse":
        return invert(parts[0])
    if kind == "power":
        found = parts[0]
        for _ in range(formula.exponent - 1):
            found = times(found, parts[0])
        return found
    if kind == "blocks":
        return blocks(tabled(formula, parts))
    inner = formula.parts[0]
    top = sum(sizes[name] for name in inner.rows[:formula.row])
    left = sum(sizes[name] for name in inner.columns[:formula.column])
    rows, columns = sizes[inner.rows[formula.row]], sizes[inner.columns[formula.column]]
    return [row[left:left + columns] for row in parts[0][top:top + rows]]


# Words and coefficients (points 13 and 14).

def letters_of(formulas):
    return {letter.name: letter for formula in formulas for letter in formula.letters}


def symbols(letters):
    found = []
    for letter in letters.values():
        found.append((letter.name, False))
        if letter.symmetry == "plain":
            found.append((letter.name, True))
    return sorted(found)


def ends_of(symbol, letters):
    """The first and the last name of a symbol."""
    letter = letters[symbol[0]]
    names = (letter.rows[0], letter.columns[0])
    return names[::-1] if symbol[1] else names


def is_word(word, letters):
    return all(ends_of(x, letters)[1] == ends_of(y, letters)[0] for x, y in zip(word, word[1:]))


def words(letters, longest):
    """All words of at most so many symbols, in their order."""
    for length in range(longest + 1):
        for word in product(symbols(letters), repeat=length):
            if is_word(word, letters):
                yield word


def turned_back(word, letters):
    """The word turned back and the number that goes with it."""
    found, sign = [], 1
    for name, turned in reversed(word):
        symmetry = letters[name].symmetry
        found.append((name, not turned if symmetry == "plain" else turned))
        sign *= -1 if symmetry == "skew" else 1
    return tuple(found), sign


def coefficient(formula, word, letters, known):
    """The coefficient of a word as a table; known is a dict for what was found before."""
    key = (str(formula), word)
    if key not in known:
        known[key] = worked_out(formula, word, letters, known)
    return known[key]


def worked_out(formula, word, letters, known):
    if not word:
        return table_of(formula.middle)
    kind = formula.kind
    if kind == "letter":
        return [[Fraction(int(word == ((formula.name, False),)))]]
    if kind in ("eye", "zero"):
        return zeros(len(formula.rows), len(formula.columns))

    def of(part, some):
        return coefficient(part, some, letters, known)

    def convolved(left, right, start):
        found = None
        for cut in range(start, len(word) + 1):
            more = times(left(word[:cut]), right(word[cut:]))
            found = more if found is None else plus(found, more)
        return found

    if kind == "product":
        one, other = formula.parts
        return convolved(lambda u: of(one, u), lambda v: of(other, v), 0)
    inner = formula.parts[0]
    if kind == "inverse":
        return scaled(-1, times(table_of(formula.middle), convolved(lambda u: of(inner, u), lambda v: of(formula, v), 1)))
    if kind == "power":
        if formula.exponent == 1:
            return of(inner, word)
        lower = inner ** (formula.exponent - 1)
        return convolved(lambda u: of(lower, u), lambda v: of(inner, v), 0)
    if kind == "transposed":
        back, sign = turned_back(word, letters)
        return scaled(sign, flipped(of(inner, back)))
    parts = [of(part, word) for part in formula.parts]
    if kind == "sum":
        return plus(*parts)
    if kind == "difference":
        return plus(*parts, factor=-1)
    if kind == "scaled":
        return scaled(fraction(formula.number), parts[0])
    if kind == "blocks":
        return blocks(tabled(formula, parts))
    return [[parts[0][formula.row][formula.column]]]


# Plain readers (points 16 and 17).

class Plain:
    """A reader with dense tables: starts as a table, moves and ends as dicts from symbols to tables."""

    def __init__(self, rows, columns, middle, names, starts, moves, ends):
        self.rows, self.columns, self.middle, self.names = rows, columns, middle, names
        self.starts, self.moves, self.ends = starts, moves, ends


def plain(formula, letters):
    """The plain reader of a formula, with tables for all symbols of these letters."""
    kind = formula.kind
    every = symbols(letters)
    parts = [plain(part, letters) for part in formula.parts]
    rows, columns = formula.rows, formula.columns
    if kind == "letter":
        ends = {y: [[Fraction(int(y == (formula.name, False)))]] for y in every}
        return Plain(rows, columns, table_of(formula.middle), rows, [[Fraction(1)]], {y: zeros(1, 1) for y in every}, ends)
    if kind in ("eye", "zero"):
        nothing = {y: [] for y in every}
        return Plain(rows, columns, table_of(formula.middle), (), [[] for _ in rows], nothing, nothing)
    if kind == "sum":
        return plain_sum(parts[0], parts[1], 1, every)
    if kind == "difference":
        return plain_sum(parts[0], parts[1], -1, every)
    if kind == "product":
        return plain_product(parts[0], parts[1], every)
    a = parts[0]
    if kind == "scaled":
        number = fraction(formula.number)
        return Plain(rows, columns, scaled(number, a.middle), a.names, scaled(number, a.starts), a.moves, a.ends)
    if kind == "power":
        found = a
        for _ in range(formula.exponent - 1):
            found = plain_product(found, a, every)
        return found
    if kind == "inverse":
        return plain_inverse(a, every)
    if kind == "transposed":
        return plain_transposed(a, letters, every)
    if kind == "blocks":
        return plain_blocks(formula, tabled(formula, parts), every)
    ends = {y: [[row[formula.column]] for row in a.ends[y]] for y in every}
    middle = [[a.middle[formula.row][formula.column]]]
    return Plain(rows, columns, middle, a.names, [a.starts[formula.row]], a.moves, ends)


def plain_sum(a, b, sign, every):
    d, e = len(a.names), len(b.names)
    starts = [x + [sign * n for n in y] for x, y in zip(a.starts, b.starts)]
    moves = {y: [row + [Fraction(0)] * e for row in a.moves[y]] + [[Fraction(0)] * d + row for row in b.moves[y]]
             for y in every}
    ends = {y: a.ends[y] + b.ends[y] for y in every}
    return Plain(a.rows, a.columns, plus(a.middle, b.middle, sign), a.names + b.names, starts, moves, ends)


def row_times(row, table, width):
    used = [(x, table[k]) for k, x in enumerate(row) if x]
    return [sum((x * line[j] for x, line in used if line[j]), Fraction(0)) for j in range(width)]


def plain_product(a, b, every):
    d, e, c = len(a.names), len(b.names), len(b.columns)
    starts = [a.starts[i] + row_times(a.middle[i], b.starts, e) for i in range(len(a.rows))]
    moves, ends = {}, {}
    for y in every:
        moves[y] = [a.moves[y][k] + row_times(a.ends[y][k], b.starts, e) for k in range(d)]
        moves[y] += [[Fraction(0)] * d + row for row in b.moves[y]]
        ends[y] = [row_times(a.ends[y][k], b.middle, c) for k in range(d)] + b.ends[y]
    return Plain(a.rows, b.columns, times(a.middle, b.middle), a.names + b.names, starts, moves, ends)


def plain_inverse(a, every):
    d, n = len(a.names), len(a.rows)
    inner = inverse(a.middle)
    back = [row_times(inner[i], a.starts, d) for i in range(n)]
    moves = {y: [[x - z for x, z in zip(a.moves[y][k], row_times(a.ends[y][k], back, d))] for k in range(d)] for y in every}
    ends = {y: [row_times(a.ends[y][k], inner, n) for k in range(d)] for y in every}
    return Plain(a.rows, a.columns, inner, a.names, scaled(-1, back), moves, ends)


def plain_transposed(a, letters, every):
    d, c, r = len(a.names), len(a.columns), len(a.rows)
    moves, ends = {}, {}
    for y in every:
        (z,), sign = turned_back((y,), letters)
        moves[y], ends[y] = [], []
        for source in range(c + d):
            if source < c:
                numbers = [sign * a.ends[z][k][source] for k in range(d)]
            else:
                numbers = [sign * a.moves[z][k][source - c] for k in range(d)]
            moves[y].append([Fraction(0)] * c + numbers)
            ends[y].append([sum((numbers[k] * a.starts[i][k] for k in range(d)), Fraction(0)) for i in range(r)])
    starts = [row + [Fraction(0)] * d for row in identity(c)]
    return Plain(a.columns, a.rows, flipped(a.middle), a.columns + a.names, starts, moves, ends)


def plain_blocks(formula, table, every):
    total = sum(len(part.names) for line in table for part in line)
    names, starts = (), []
    moves, ends = {y: [] for y in every}, {y: [] for y in every}
    for line in table:
        rows = [[Fraction(0)] * len(names) for _ in line[0].rows]
        left = 0
        for part in line:
            before, width = len(names), len(part.names)
            rows = [row + more for row, more in zip(rows, part.starts)]
            for y in every:
                moves[y] += [[Fraction(0)] * before + row + [Fraction(0)] * (total - before - width) for row in part.moves[y]]
                right = len(formula.columns) - left - len(part.columns)
                ends[y] += [[Fraction(0)] * left + row + [Fraction(0)] * right for row in part.ends[y]]
            names += part.names
            left += len(part.columns)
        starts += [row + [Fraction(0)] * (total - len(names)) for row in rows]
    middle = blocks([[part.middle for part in line] for line in table])
    return Plain(formula.rows, formula.columns, middle, names, starts, moves, ends)


# Kept pairs and forms (point 18), from tails for words up to a length alone.

class Tails:
    """The tails of a formula, of which only the words of at most `longest` symbols are looked at."""

    def __init__(self, formula, longest, reach):
        self.formula, self.letters, self.known = formula, letters_of([formula]), {}
        self.behind = [word for word in words(self.letters, longest) if word]
        self.kept, self.rows = [], []
        for word in words(self.letters, reach):
            for i in range(len(formula.rows)):
                row = self.tail(word, i)
                if mixture(self.rows, row) is None:
                    self.kept.append((word, i))
                    self.rows.append(row)

    def entry(self, word):
        if not is_word(word, self.letters):
            return zeros(len(self.formula.rows), len(self.formula.columns))
        return coefficient(self.formula, word, self.letters, self.known)

    def tail(self, word, i):
        return [x for behind in self.behind for x in self.entry(word + behind)[i]]

    def start(self, i):
        return mixture(self.rows, self.tail((), i))

    def move(self, state, symbol):
        word, i = self.kept[state]
        return mixture(self.rows, self.tail(word + (symbol,), i))

    def end(self, state, symbol):
        word, i = self.kept[state]
        return self.entry(word + (symbol,))[i]
