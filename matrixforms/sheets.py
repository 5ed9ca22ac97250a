"""Sheets: letters, definitions, and claims that hold for all matrices after each change."""

from matrixforms.deeds import after
from matrixforms.errors import NothingToUndo, UnknownName
from matrixforms.pages import Page


class Step:
    """A page, with the deed that led to it and the step before that deed; both are None for the first page."""

    def __init__(self, page, deed, earlier):
        self.page = page
        self.deed = deed
        self.earlier = earlier


class Mark:
    """The step to which a trial goes back, and the mark of the trial around it, None if there is none."""

    def __init__(self, step, outer):
        self.step = step
        self.outer = outer


class Trial:
    """A context manager: if its block ends with an exception, the sheet is as it was when the block was entered."""

    def __init__(self, sheet):
        self._sheet = sheet
        self._mark = None

    def __enter__(self):
        # One trial can be entered several times, also within itself.
        self._mark = Mark(self._sheet._step, self._mark)
        return self._sheet

    def __exit__(self, kind, value, trace):
        if kind is not None:
            self._sheet._step = self._mark.step
        self._mark = self._mark.outer


class Sheet:
    """A sheet, at first an empty one."""

    def __init__(self):
        self._step = Step(Page({}, {}, (), {}), None, None)

    def do(self, deed):
        """Do a deed."""
        self._step = Step(after(self._step.page, deed), deed, self._step)

    def do_all(self, *deeds):
        """Do these deeds one after another, all or none."""
        with self.trial():
            for deed in deeds:
                self.do(deed)

    def undo(self):
        """Undo the last deed of the history."""
        if self._step.earlier is None:
            raise NothingToUndo()
        self._step = self._step.earlier

    def trial(self):
        """Return a context manager that gives the sheet and takes back what is done before an exception."""
        return Trial(self)

    def tried(self, action):
        """Call a function with the sheet inside of a trial and return what it returns."""
        with self.trial() as held:
            return action(held)

    def wording(self, name):
        """Return the text of the definition with this name."""
        if not (isinstance(name, str) and name in self._step.page.worded):
            raise UnknownName(name)
        return self._step.page.worded[name].text

    @property
    def letters(self):
        """The tuple of the letters, ascending by their names."""
        listed = self._step.page.listed
        return tuple([listed[name] for name in sorted(list(listed))])

    @property
    def definitions(self):
        """The ascending tuple of the names of the definitions."""
        return tuple(sorted(list(self._step.page.worded)))

    @property
    def claims(self):
        """The tuple of the pairs of texts of the claims."""
        return tuple([tuple([wording.text for wording in claim.wordings]) for claim in self._step.page.held])

    @property
    def history(self):
        """The tuple of the deeds."""
        found = []
        step = self._step
        while step.earlier is not None:
            found.append(step.deed)
            step = step.earlier
        return tuple(found[::-1])

    def __getitem__(self, at):
        if not (isinstance(at, str) and at in self._step.page.made):
            raise UnknownName(at)
        return self._step.page.made[at]

    def __iter__(self):
        raise TypeError("a sheet is not iterated over")

    def __contains__(self, x):
        return isinstance(x, str) and x in self._step.page.made

    def __len__(self):
        return len(self._step.page.worded)

    def __bool__(self):
        return True

    def __eq__(self, other):
        # A sheet equals itself alone: no other one has the same step, and steps have no equality of their own.
        return isinstance(other, Sheet) and self._step == other._step
