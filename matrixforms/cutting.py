"""Parts of formulas with some of their rows and columns, and formulas that are put among zeros.

The rows or columns that are meant are given as a pair (start, stop): the indexes from start
on that are less than stop.
"""

from matrixforms.formulas import Blocks, Corner, Eye, Zero


def chosen(side, span):
    """Return the formula that chooses these rows of a formula with this side: it stands before the formula."""
    start, stop = span
    names = side[start:stop]
    line = [Zero(names, side[:start])] if start else []
    line.append(Eye(names))
    if stop < len(side):
        line.append(Zero(names, side[stop:]))
    return Blocks((tuple(line),))


def is_whole_side(side, span):
    """Tell whether all indexes of a side are meant."""
    return span == (0, len(side))


def members_for(lengths, span):
    """Return the pair of indexes of the members with these lengths that together fill a span, None if none do."""
    ends = [sum(lengths[:count]) for count in range(len(lengths) + 1)]
    if span[0] in ends and span[1] in ends:
        return ends.index(span[0]), ends.index(span[1])
    return None


def from_table(formula, rows, columns):
    """Return the part of blocks with these rows and columns if formulas of the table make it, otherwise None."""
    lines = members_for([len(line[0].rows) for line in formula.table], rows)
    widths = members_for([len(part.columns) for part in formula.table[0]], columns)
    if lines is None or widths is None:
        return None
    table = tuple([line[widths[0]:widths[1]] for line in formula.table[lines[0]:lines[1]]])
    return table[0][0] if len(table) == len(table[0]) == 1 else Blocks(table)


def cut_out(formula, rows, columns):
    """Return the part of a formula with these rows and columns."""
    if is_whole_side(formula.rows, rows) and is_whole_side(formula.columns, columns):
        return formula
    found = from_table(formula, rows, columns) if formula.kind == "blocks" else None
    if found is not None:
        return found
    if rows[1] - rows[0] == columns[1] - columns[0] == 1:
        return Corner(formula, rows[0], columns[0])
    found = formula
    if not is_whole_side(formula.rows, rows):
        found = chosen(formula.rows, rows) * found
    if not is_whole_side(formula.columns, columns):
        found = found * chosen(formula.columns, columns).transposed
    return found


def among_zeros(formula, sides, at):
    """Return the formula with these sides that has a formula at this pair of indexes, and zeros elsewhere."""
    rows, columns = sides
    found = formula
    if len(rows) > 1:
        found = chosen(rows, (at[0], at[0] + 1)).transposed * found
    if len(columns) > 1:
        found = found * chosen(columns, (at[1], at[1] + 1))
    return found
