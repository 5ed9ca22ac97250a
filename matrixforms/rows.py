"""Rows of numbers of which most are 0.

A row is a pair (cells, bottom): its number at an index is cells[index] over bottom, and 0
where the dict cells has no index. It has lowest terms, so equal rows are equal pairs. A
table is a dict from indexes to rows, with no row in which all numbers are 0. Integers over
one bottom take far less time than a Ratio for each number.
"""

from math import gcd, lcm

from matrixforms.matrices import Matrix, over_one_bottom
from matrixforms.ratios import Ratio


def lowest(cells, bottom):
    """Return the row with these cells over this bottom, which is at least 1."""
    found = {index: cell for index, cell in cells.items() if cell}
    shared = bottom
    for cell in list(found.values()):
        if shared == 1:
            return found, bottom
        shared = gcd(shared, cell)
    return {index: cell // shared for index, cell in found.items()}, bottom // shared


def unit(index):
    """Return the row with 1 at this index."""
    return {index: 1}, 1


def row_of(numbers):
    """Return the row with these Ratios."""
    tops, bottom = over_one_bottom(numbers)
    return lowest({index: top for index, top in enumerate(tops)}, bottom)


def numbers_of(row, count):
    """Return the tuple of the first numbers of a row, so many Ratios."""
    cells, bottom = row
    return tuple([Ratio(cells.get(index, 0), bottom) for index in range(count)])


def mixed(row, table):
    """Return the sum of each number of a row times the row of the table with its index."""
    cells, bottom = row
    used = [index for index in cells if index in table]
    shared = 1
    for index in used:
        shared = lcm(shared, table[index][1])
    found = {}
    for index in used:
        others, below = table[index]
        factor = cells[index] * (shared // below)
        for place, other in others.items():
            found[place] = found.get(place, 0) + factor * other
    return lowest(found, bottom * shared)


def sum_of(one, other):
    """Return the sum of two rows."""
    return mixed(({0: 1, 1: 1}, 1), {0: one, 1: other})


def without_empty(table):
    """Return the table of those of these rows in which not all numbers are 0."""
    return {index: row for index, row in table.items() if row[0]}


def table_sum(one, other):
    """Return the table of the sums of the rows of two tables."""
    found = {index: one[index] for index in one}
    for index, row in other.items():
        found[index] = sum_of(found[index], row) if index in found else row
    return without_empty(found)


def table_times(table, number):
    """Return the table of the rows times a Ratio."""
    return without_empty({
        index: lowest({place: cell * number.top for place, cell in cells.items()}, bottom * number.bottom)
        for index, (cells, bottom) in table.items()
    })


def through(table, other):
    """Return the product of two tables: each row of the first one mixed of those of the other one."""
    return without_empty({index: mixed(row, other) for index, row in table.items()})


def shifted(table, down, right):
    """Return the table with all rows so much further down and all their numbers further right."""
    return {
        index + down: ({place + right: cell for place, cell in cells.items()}, bottom)
        for index, (cells, bottom) in table.items()
    }


def columns_of(table):
    """Return the columns of a table, dicts of integers by their indexes, and the one bottom below all of these."""
    shared = 1
    for _, bottom in list(table.values()):
        shared = lcm(shared, bottom)
    found = {}
    for index, (cells, bottom) in table.items():
        factor = shared // bottom
        for place, cell in cells.items():
            if place not in found:
                found[place] = {}
            found[place][index] = cell * factor
    return found, shared


def flipped(table):
    """Return the transpose of a table."""
    columns, bottom = columns_of(table)
    return {place: lowest(cells, bottom) for place, cells in columns.items()}


def table_of(matrix):
    """Return the table with the entries of a matrix."""
    return without_empty({index: row_of(numbers) for index, numbers in enumerate(matrix.entries)})


def matrix_of(table, rows, columns):
    """Return the Matrix with so many rows and columns that has the numbers of a table."""
    return Matrix(tuple([numbers_of(table.get(index, ({}, 1)), columns) for index in range(rows)]))
