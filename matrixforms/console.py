"""A console: does and answers what lines of text say."""

from matrixforms.forms import degree, form, matters
from matrixforms.lines import told_by
from matrixforms.sameness import parting
from matrixforms.sheets import Sheet
from matrixforms.solving import solve
from matrixforms.wordings import Wording, check_known

DEEDS = {"letter": "letter", "let": "define", "claim": "claim", "drop": "drop", "lift": "lift"}


def formulas_of(sheet, *texts):
    """Return the list of the formulas with these texts, in which letters and definitions of the sheet stand."""
    wordings = [Wording(text) for text in texts]
    check_known(wordings, sheet)
    return [wording.formula({name: sheet[name] for name in wording.needs}) for wording in wordings]


def told_history(sheet):
    """Answer with the number of deeds."""
    return str(len(sheet.history))


def told_claims(sheet):
    """Answer with the claims."""
    return " | ".join([f"{left} = {right}" for left, right in sheet.claims]) or "none"


def told_formula(sheet, name):
    """Answer with the text of a formula."""
    return str(sheet[name])


def told_test(sheet, left, right):
    """Answer whether two formulas are the same, and with sizes and matrices if they are not."""
    one, other = formulas_of(sheet, left, right)
    found = parting(one, other)
    if found is None:
        return "same"
    sizes = "".join([f" {name}={size}" for name, size in found.sizes.items()])
    matrices = "".join([f" | {name}: {matrix}" for name, matrix in found.matrices.items()])
    return f"unlike{sizes}{matrices}"


def told_rank(sheet, text):
    """Answer with the rank of a formula."""
    return str(form(formulas_of(sheet, text)[0]).rank)


def told_degree(sheet, text):
    """Answer with the degree of a formula."""
    found = degree(formulas_of(sheet, text)[0])
    return "endless" if found is None else str(found)


def told_solution(sheet, name, text):
    """Answer with the solution of a formula for a letter."""
    return str(solve(formulas_of(sheet, text)[0], name).answer)


def told_matter(sheet, name, text):
    """Answer whether a letter matters for a formula."""
    return "yes" if matters(formulas_of(sheet, text)[0], name) else "no"


ANSWERS = {
    "history": told_history, "claims": told_claims, "show": told_formula, "test": told_test, "rank": told_rank,
    "degree": told_degree, "solve": told_solution, "matters": told_matter,
}


class Console:
    """Keeps a sheet, at first an empty one, and answers lines."""

    def __init__(self):
        self._sheet = Sheet()

    def say(self, line):
        """Answer a line with a string."""
        word, *told = told_by(line)
        if word in DEEDS:
            self._sheet.do((DEEDS[word], *told))
            return "ok"
        if word == "undo":
            self._sheet.undo()
            return "ok"
        action = ANSWERS[word]
        return action(self._sheet, *told)

    def __eq__(self, other):
        # A console equals itself alone, as its sheet does.
        return isinstance(other, Console) and self._sheet == other._sheet
