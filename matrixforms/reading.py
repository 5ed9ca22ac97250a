"""Reads formulas from their texts."""

from matrixforms.errors import InvalidLetters, InvalidText, UnknownName
from matrixforms.formulas import (
    Blocks, Corner, Difference, Eye, Inverse, Letter, Power, Product, Scaled, Sum, Transposed, Zero,
)
from matrixforms.parsing import steps_of


def check_text(text):
    """Raise InvalidText if a value is no string."""
    if not isinstance(text, str):
        raise InvalidText(text)


def names_in(steps):
    """Return the tuple of the letter names in these steps, in the order in which they first stand there."""
    found = {}
    for step in steps:
        if step[0] == "letter":
            found[step[1]] = True
    return tuple(list(found))


def check_letters(letters):
    """Raise InvalidLetters if a value is no tuple of letters with different names."""
    if not isinstance(letters, tuple):
        raise InvalidLetters(letters)
    if not all([isinstance(letter, Letter) for letter in letters]):
        raise InvalidLetters(letters)
    if len(set([letter.name for letter in letters])) != len(letters):
        raise InvalidLetters(letters)


def parts_needed(step):
    """Return the number of parts of the formula that a step makes."""
    if step[0] in ("letter", "eye", "zero"):
        return 0
    if step[0] in ("sum", "difference", "product"):
        return 2
    return sum(step[1]) if step[0] == "blocks" else 1


def arranged(parts, counts):
    """Return the table with these formulas, row by row, and so many of them in each row."""
    rows = []
    start = 0
    for count in counts:
        rows.append(tuple(parts[start:start + count]))
        start += count
    return tuple(rows)


def joined(kind, one, other):
    """Return the sum, difference or product of two formulas."""
    if kind == "sum":
        return Sum(one, other)
    if kind == "difference":
        return Difference(one, other)
    return Product(one, other)


def changed(step, one):
    """Return the formula that a step makes of one other formula."""
    if step[0] == "scaled":
        return Scaled(step[1], one)
    if step[0] == "transposed":
        return Transposed(one)
    if step[0] == "inverse":
        return Inverse(one)
    if step[0] == "power":
        return Power(one, step[1])
    return Corner(one, step[1], step[2])


def made(step, parts, known):
    """Return the formula that a step makes of these parts, with the letters or formulas that have these names."""
    if step[0] == "letter":
        return known[step[1]]
    if step[0] == "eye":
        return Eye(step[1])
    if step[0] == "zero":
        return Zero(step[1], step[2])
    if step[0] == "blocks":
        return Blocks(arranged(parts, step[1]))
    if len(parts) == 2:
        return joined(step[0], parts[0], parts[1])
    return changed(step, parts[0])


def step_of(formula):
    """Return the step that makes a formula of its parts."""
    if formula.kind == "scaled":
        return ("scaled", formula.number)
    if formula.kind == "power":
        return ("power", formula.exponent)
    if formula.kind == "corner":
        return ("corner", formula.row, formula.column)
    if formula.kind == "blocks":
        return ("blocks", tuple([len(line) for line in formula.table]))
    return (formula.kind,)


def formula_of(steps, known):
    """Return the formula that these steps make, with what is known under the letter names in them."""
    waiting = []
    for step in steps:
        start = len(waiting) - parts_needed(step)
        parts = waiting[start:]
        waiting = [*waiting[:start], made(step, parts, known)]
    return waiting[0]


def read(text, letters):
    """Return the formula with this text and these letters."""
    check_text(text)
    check_letters(letters)
    steps = steps_of(text)
    known = {letter.name: letter for letter in letters}
    for name in names_in(steps):
        if name not in known:
            raise UnknownName(name)
    return formula_of(steps, known)


def names(text):
    """Return the tuple of the letter names in a text, in the order in which they first stand in it."""
    check_text(text)
    return names_in(steps_of(text))
