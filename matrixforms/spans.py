"""Spans of rows of integers, for finding out which rows are combinations of others."""

from math import gcd, lcm


def shortened(cells):
    """Return these cells without those that are 0 and without their common divisor."""
    found = {index: cell for index, cell in cells.items() if cell}
    shared = 0
    for cell in list(found.values()):
        shared = gcd(shared, cell)
        if shared == 1:
            return found
    return {index: cell // shared for index, cell in found.items()}


class Span:
    """All combinations of the rows that were kept.

    Each row of its basis has a pivot, the least index of a cell in it when it was kept, and
    no other one has a cell there. So the basis depends on the span alone, and a row is
    reduced in one go. Cells behind all others can be used as marks that tell of which rows
    that were kept a row was mixed.
    """

    def __init__(self):
        self._basis = {}

    def dimension(self):
        """Return the number of rows of the basis."""
        return len(self._basis)

    def pivots(self):
        """Return the ascending list of the pivots."""
        return sorted(list(self._basis))

    def basis_row(self, pivot):
        """Return the cells of the row of the basis with this pivot, at which the cell is above 0."""
        return dict(self._basis[pivot])

    def reduced(self, cells):
        """Return a positive multiple of a row plus a row of the span, with no cell at a pivot."""
        hits = [(pivot, self._basis[pivot]) for pivot in cells if pivot in self._basis]
        scale = 1
        for pivot, row in hits:
            scale = lcm(scale, row[pivot] // gcd(row[pivot], cells[pivot]))
        found = {index: cell * scale for index, cell in cells.items()}
        for pivot, row in hits:
            factor = cells[pivot] * scale // row[pivot]
            for index, cell in row.items():
                found[index] = found.get(index, 0) - factor * cell
        return shortened(found)

    def keep(self, cells):
        """Take in a row that is reduced and has cells."""
        pivot = min(list(cells))
        lead = cells[pivot]
        row = cells if lead > 0 else {index: -cell for index, cell in cells.items()}
        for other in list(self._basis):
            if pivot in self._basis[other]:
                self._basis[other] = without(self._basis[other], row, pivot)
        self._basis[pivot] = row


def without(cells, row, pivot):
    """Return a positive multiple of these cells less a multiple of the row, with no cell at the pivot."""
    shared = gcd(cells[pivot], row[pivot])
    scale = row[pivot] // shared
    factor = cells[pivot] // shared
    found = {index: cell * scale for index, cell in cells.items()}
    for index, cell in row.items():
        found[index] = found.get(index, 0) - factor * cell
    return shortened(found)
