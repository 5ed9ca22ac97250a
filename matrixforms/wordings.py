"""Texts of formulas in which letters and definitions stand, read but not yet made."""

from matrixforms.errors import UnknownName
from matrixforms.parsing import steps_of
from matrixforms.reading import check_text, formula_of, names_in


class Wording:
    """A text with the steps by which its formula is made, and the letter names that stand in it. It never changes."""

    def __init__(self, text):
        check_text(text)
        self.text = text
        self._steps = steps_of(text)
        self.needs = names_in(self._steps)

    def formula(self, known):
        """Return the formula, with the formulas that are known by their names."""
        return formula_of(self._steps, known)


def check_known(wordings, known):
    """Raise UnknownName for the first name in these wordings that is not among those that are known."""
    for wording in wordings:
        for name in wording.needs:
            if name not in known:
                raise UnknownName(name)
