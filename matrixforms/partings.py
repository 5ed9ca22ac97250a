"""Finds the first word by which two formulas differ, and the sizes and matrices that it leads to."""

from matrixforms.machines import difference_machine
from matrixforms.matrices import Matrix
from matrixforms.ratios import Ratio
from matrixforms.searching import first_word


def first_unlike_word(one, other):
    """Return the first word whose coefficients differ in two machines, None if there is none."""
    if one.core != other.core:
        return ()
    return first_word(difference_machine(one, other))


class Trail:
    """The positions along a word, each with a size name and a number among the positions of this name."""

    def __init__(self, word, letters):
        self._word = word
        self._letters = letters
        self._names = []
        self._numbers = []
        for index, symbol in enumerate(word):
            rows, columns = self._names_of(symbol)
            if index == 0:
                self._step_to(rows)
            self._step_to(columns)

    def sizes_for(self, names):
        """Return the sizes of these names: as many as there are positions, at least 1."""
        return {name: max(1, self._names.count(name)) for name in names}

    def matrices_for(self, sizes, divisor):
        """Return the matrices of the letters in these sizes, with 1 over the divisor along the word."""
        entries = {name: about_entries(letter, sizes) for name, letter in self._letters.items()}
        step = Ratio(1, divisor)
        for index, symbol in enumerate(self._word):
            rows = entries[symbol[0]]
            start, end = self._numbers[index], self._numbers[index + 1]
            if symbol[1]:
                start, end = end, start
            rows[start][end] = step
            symmetry = self._letters[symbol[0]].symmetry
            if symmetry != "plain":
                rows[end][start] = step if symmetry == "symmetric" else -step
        return {name: Matrix(tuple([tuple(row) for row in rows])) for name, rows in entries.items()}

    def _names_of(self, symbol):
        letter = self._letters[symbol[0]]
        names = (letter.rows[0], letter.columns[0])
        return names[::-1] if symbol[1] else names

    def _step_to(self, name):
        self._numbers.append(self._names.count(name))
        self._names.append(name)


def about_entries(letter, sizes):
    """Return the lists of the entries of the number of a letter times the identity, of zeros if it is not square."""
    # A letter that is not square is about 0.
    return [
        [letter.about if column == row else Ratio(0) for column in range(sizes[letter.columns[0]])]
        for row in range(sizes[letter.rows[0]])
    ]
