"""Decides anew whether claims and certificates are as point 25 says, with dense tables of Python's own fractions."""

from fractions import Fraction
from math import gcd

import reference
from matrixforms.errors import AnswerError, InputError, MeetError
from matrixforms.formulas import Letter
from matrixforms.ratios import Ratio
from matrixforms.reading import read


class Refused(Exception):
    """Something is not as it has to be."""


def demand(holds):
    if not holds:
        raise Refused()


def items(given, count=None):
    demand(type(given) is tuple and count in (None, len(given)))
    return given


def whole(given, least):
    demand(type(given) is int and given >= least)
    return given


def number(given):
    top, bottom = items(given, 2)
    demand(type(top) is int and type(bottom) is int and bottom >= 1 and gcd(top, bottom) == 1)
    return Fraction(top, bottom)


def numbers(given, count):
    return [number(x) for x in items(given, count)]


def letters_of(given):
    found = {}
    for letter in items(given):
        name, rows, columns, symmetry, about = items(letter, 5)
        about = number(about)
        try:
            one = Letter(name, rows, columns, symmetry=symmetry, about=Ratio(about.numerator, about.denominator))
        except InputError:
            raise Refused() from None
        demand(not found or max(found) < name)
        found[name] = one
    return found


def formulas_of(texts, letters):
    found = []
    for text in texts:
        demand(type(text) is str)
        try:
            one = read(text, tuple(letters.values()))
        except (InputError, MeetError, AnswerError):
            raise Refused() from None
        demand(str(one) == text)
        found.append(one)
    demand({x.name for one in found for x in one.letters} == set(letters))
    demand(len({(one.rows, one.columns) for one in found}) == 1)
    return found


def is_in(rows, row):
    return reference.rank(rows + [row]) == reference.rank(rows)


def moved(row, table):
    return reference.row_times(row, table, len(table))


def stays(rows, reader):
    demand(all(is_in(rows, moved(row, table)) for row in rows for table in reader.moves.values()))


def holds(rows, reader):
    demand(all(is_in(rows, row) for row in reader.starts))
    stays(rows, reader)


def blind(rows, reader):
    stays(rows, reader)
    demand(not any(any(reference.row_times(row, table, len(reader.columns))) for row in rows for table in reader.ends.values()))


def rows_of(given, reader):
    return [numbers(row, len(reader.names)) for row in items(given)]


def shows_zero(given, reader):
    rows = rows_of(given, reader)
    holds(rows, reader)
    blind(rows, reader)
    demand(reference.is_zero(reader.middle))


def word_of(given, letters):
    for symbol in items(given):
        name, turned = items(symbol, 2)
        demand(type(name) is str and type(turned) is bool and symbol in reference.symbols(letters))
    demand(reference.is_word(given, letters))
    return given


def index_of(given, side):
    demand(whole(given, 0) < len(side))
    return given


def regular(table):
    demand(reference.rank(table) == len(table))


def check_same(letters, text, other, certificate):
    one, another = formulas_of((text, other), letters)
    every = reference.symbols(letters)
    shows_zero(certificate, reference.plain_sum(reference.plain(one, letters), reference.plain(another, letters), -1, every))


def check_different(letters, text, other, certificate):
    one, another = formulas_of((text, other), letters)
    sizes_given, matrices_given = items(certificate, 2)
    names = sorted({*one.sizes, *another.sizes})
    sizes = {}
    for pair, name in zip(items(sizes_given, len(names)), names):
        demand(type(items(pair, 2)[0]) is str and pair[0] == name)
        sizes[name] = whole(pair[1], 1)
    tables = {}
    for given, letter in zip(items(matrices_given, len(letters)), letters.values()):
        rows, columns = sizes[letter.rows[0]], sizes[letter.columns[0]]
        table = [numbers(row, columns) for row in items(given, rows)]
        sign = {"plain": None, "symmetric": 1, "skew": -1}[letter.symmetry]
        demand(sign is None or table == reference.scaled(sign, reference.flipped(table)))
        tables[letter.name] = table
    try:
        demand(reference.value(one, sizes, tables) != reference.value(another, sizes, tables))
    except reference.NoInverse:
        raise Refused() from None


def check_rank(letters, text, rank, certificate):
    one, = formulas_of((text,), letters)
    whole(rank, 0)
    given, more, before, behind = items(certificate, 4)
    reader = reference.plain(one, letters)
    upper, lower = rows_of(given, reader), rows_of(more, reader)
    holds(upper, reader)
    blind(lower, reader)
    demand(all(is_in(upper, row) for row in lower))
    demand(reference.rank(upper) == rank + reference.rank(lower))
    left = [(word_of(word, letters), index_of(i, one.rows)) for word, i in [items(pair, 2) for pair in items(before, rank)]]
    right = [(word_of(word, letters), index_of(j, one.columns)) for word, j in [items(pair, 2) for pair in items(behind, rank)]]
    demand(all(word for word, _ in right))
    known = {}

    def entry(u, i, v, j):
        return reference.coefficient(one, u + v, letters, known)[i][j] if reference.is_word(u + v, letters) else Fraction(0)

    regular([[entry(u, i, v, j) for v, j in right] for u, i in left])


def check_relations(letters, texts, basis, certificate):
    formulas = formulas_of(items(texts), letters)
    spans, places = items(certificate, 2)
    relations = [numbers(relation, len(formulas)) for relation in items(basis)]
    demand(all(any(relation) for relation in relations))
    pivots = [next(k for k, x in enumerate(relation) if x) for relation in relations]
    demand(pivots == sorted(set(pivots)))
    for relation, pivot in zip(relations, pivots):
        demand([relation[k] for k in pivots] == [int(k == pivot) for k in pivots])
    every = reference.symbols(letters)
    for given, relation in zip(items(spans, len(relations)), relations):
        found = None
        for x, one in zip(relation, formulas):
            a = reference.plain(one, letters)
            a.middle, a.starts = reference.scaled(x, a.middle), reference.scaled(x, a.starts)
            found = a if found is None else reference.plain_sum(found, a, 1, every)
        shows_zero(given, found)
    free = [one for k, one in enumerate(formulas) if k not in pivots]
    known, table = {}, []
    for place in items(places, len(free)):
        word, i, j = items(place, 3)
        word_of(word, letters), index_of(i, formulas[0].rows), index_of(j, formulas[0].columns)
        table.append([reference.coefficient(one, word, letters, known)[i][j] for one in free])
    regular(table)


CHECKS = {"same": check_same, "different": check_different, "rank": check_rank, "relations": check_relations}


def accepts(claim, certificate):
    """What point 25 says of plain values."""
    try:
        kind, letters, one, other = items(claim, 4)
        demand(type(kind) is str and kind in CHECKS)
        CHECKS[kind](letters_of(letters), one, other, certificate)
        return True
    except Refused:
        return False
