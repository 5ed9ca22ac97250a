"""Finds the steps by which a formula is made from its text.

A step is a tuple of the kind of a formula and of what is needed besides its parts. Each
step stands behind those of its parts, these from left to right, as if for a stack. So
errors of the text are found before anything is made, and then the parts are made in order.
"""

from matrixforms.errors import TextError
from matrixforms.names import is_letter_name
from matrixforms.pieces import Pieces, number_of
from matrixforms.ratios import Ratio


def steps_of(text):
    """Return the list of the steps for a text; TextError if it is the text of no formula."""
    pieces = Pieces(text)
    steps = []
    add_formula(pieces, steps)
    if pieces.ahead() != "":
        raise TextError(pieces.here())
    return steps


def add_formula(pieces, steps):
    """Add the steps of a FORMULA."""
    add_term(pieces, steps)
    while True:
        piece = pieces.ahead()
        if piece not in ("+", "-"):
            return
        pieces.take(piece)
        add_term(pieces, steps)
        steps.append(("sum",) if piece == "+" else ("difference",))


def add_term(pieces, steps):
    """Add the steps of a TERM."""
    numbers = take_numbers(pieces)
    add_power(pieces, steps)
    while pieces.ahead() == "*":
        pieces.take("*")
        add_power(pieces, steps)
        steps.append(("product",))
    # The last number stands directly before the product, so it is the first one to multiply it.
    for number in numbers[::-1]:
        steps.append(("scaled", number))


def take_numbers(pieces):
    """Go on behind the numbers and minus signs in front of a product and return their list."""
    numbers = []
    while True:
        piece = pieces.ahead_of_term()
        number = Ratio(-1) if piece == "-" else number_of(piece)
        if number is None:
            return numbers
        pieces.take(piece)
        if piece != "-":
            pieces.demand("*")
        numbers.append(number)


def add_power(pieces, steps):
    """Add the steps of a POWER."""
    add_atom(pieces, steps)
    while True:
        piece = pieces.ahead()
        if piece == "'":
            pieces.take(piece)
            steps.append(("transposed",))
        elif piece == "[":
            steps.append(take_corner(pieces))
        else:
            break
    if pieces.ahead() == "**":
        pieces.take("**")
        steps.append(("power", pieces.take_whole()))


def take_corner(pieces):
    """Go on behind two indexes in brackets and return the step for them."""
    pieces.demand("[")
    row = pieces.take_whole()
    pieces.demand(",")
    column = pieces.take_whole()
    pieces.demand("]")
    return ("corner", row, column)


def add_atom(pieces, steps):
    """Add the steps of an ATOM."""
    piece = pieces.ahead()
    if is_letter_name(piece):
        pieces.take(piece)
        steps.append(("letter", piece))
    elif piece == "(":
        pieces.take(piece)
        add_formula(pieces, steps)
        pieces.demand(")")
    elif piece in ("inv", "eye", "zero", "blocks"):
        pieces.take(piece)
        pieces.demand("(")
        if piece == "inv":
            add_formula(pieces, steps)
            steps.append(("inverse",))
        elif piece == "blocks":
            add_blocks(pieces, steps)
        else:
            steps.append(take_constant(pieces, piece))
        pieces.demand(")")
    else:
        raise TextError(pieces.here())


def take_constant(pieces, kind):
    """Go on behind the sides of an eye or a zero and return the step for it."""
    rows = pieces.take_names()
    if kind == "eye":
        return ("eye", rows)
    pieces.demand(";")
    return ("zero", rows, pieces.take_names())


def add_blocks(pieces, steps):
    """Add the steps of the formulas in a table and of their blocks."""
    counts = [0]
    while True:
        add_formula(pieces, steps)
        counts[-1] += 1
        piece = pieces.ahead()
        if piece not in (",", ";"):
            break
        pieces.take(piece)
        if piece == ";":
            counts.append(0)
    steps.append(("blocks", tuple(counts)))
