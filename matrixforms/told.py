"""Tells numbers, letters, rows and matrices as the plain values of which claims and certificates are made."""


def number_told(number):
    """Tell a Ratio."""
    return (number.top, number.bottom)


def letter_as_told(letter):
    """Tell a letter."""
    return (letter.name, letter.rows[0], letter.columns[0], letter.symmetry, number_told(letter.about))


def matrix_told(matrix):
    """Tell a Matrix."""
    return tuple([tuple([number_told(number) for number in row]) for row in matrix.entries])


def row_told(cells, count):
    """Tell a row of so many integers, of which these cells are not 0."""
    return tuple([(cells.get(index, 0), 1) for index in range(count)])
