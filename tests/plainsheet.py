"""A sheet in the plainest way: after each deed everything is read and made anew, by what point 24 says."""

from matrixforms.errors import (
    Broken, Circular, InUse, InvalidDeed, InvalidIndex, InvalidName, NothingToUndo, Taken, UnknownName,
)
from matrixforms.formulas import Letter
from matrixforms.names import is_letter_name
from matrixforms.reading import formula_of, names
from matrixforms.parsing import steps_of
from matrixforms.sameness import parting

LENGTHS = {"letter": 6, "define": 3, "claim": 3, "drop": 2, "lift": 2}


class PlainSheet:
    """Keeps lists of what a sheet has; each deed is tried on copies of them."""

    def __init__(self):
        self.letters, self.texts, self.claims, self.history = {}, {}, [], []
        self.formulas = {}
        self.past = []

    def state(self):
        return dict(self.letters), dict(self.texts), list(self.claims), list(self.history), dict(self.formulas), list(self.past)

    def restore(self, state):
        self.letters, self.texts, self.claims, self.history, self.formulas, self.past = state

    def do(self, deed):
        state = self.state()
        if type(deed) is not tuple or not deed or not isinstance(deed[0], str) or LENGTHS.get(deed[0]) != len(deed):
            raise InvalidDeed(deed)
        try:
            getattr(self, deed[0])(*deed[1:])
            self.check()
        except Exception:
            self.restore(state)
            raise
        self.past.append(state)
        self.history.append(deed)

    def undo(self):
        if not self.past:
            raise NothingToUndo()
        self.restore(self.past[-1])

    def has(self, name):
        return isinstance(name, str) and (name in self.letters or name in self.texts)

    def letter(self, name, rows, columns, symmetry, about):
        one = Letter(name, rows, columns, symmetry=symmetry, about=about)
        if self.has(name):
            raise Taken(name)
        self.letters[name] = one

    def define(self, name, text):
        if not is_letter_name(name):
            raise InvalidName(name)
        if name in self.letters:
            raise Taken(name)
        for other in names(text):
            if not self.has(other) and other != name:
                raise UnknownName(other)
        self.texts[name] = text
        if self.needs(name, name, set()):
            raise Circular(name)

    def needs(self, name, sought, seen):
        for other in names(self.texts[name]):
            if other == sought:
                return True
            if other in self.texts and other not in seen:
                seen.add(other)
                if self.needs(other, sought, seen):
                    return True
        return False

    def claim(self, left, right):
        names(left), names(right)
        for text in (left, right):
            for name in names(text):
                if not self.has(name):
                    raise UnknownName(name)
        self.claims.append((left, right))

    def drop(self, name):
        if not self.has(name):
            raise UnknownName(name)
        users = [other for other, text in self.texts.items() if name in names(text)]
        if users:
            raise InUse(min(users))
        if any(name in names(text) for claim in self.claims for text in claim):
            raise InUse(None)
        self.letters.pop(name, None)
        self.texts.pop(name, None)

    def lift(self, index):
        if type(index) is not int or not 0 <= index < len(self.claims):
            raise InvalidIndex(index)
        del self.claims[index]

    def check(self):
        self.formulas = dict(self.letters)
        for name in sorted(self.texts):
            self.make(name)
        sides = [[formula_of(steps_of(text), self.formulas) for text in claim] for claim in self.claims]
        for index, (left, right) in enumerate(sides):
            found = parting(left, right)
            if found is not None:
                raise Broken(index, found)

    def make(self, name):
        if name not in self.formulas:
            for other in names(self.texts[name]):
                self.make(other)
            self.formulas[name] = formula_of(steps_of(self.texts[name]), self.formulas)
