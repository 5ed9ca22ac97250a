"""What a sheet has at one moment, with the formulas of its definitions and claims."""

from matrixforms.errors import Broken
from matrixforms.sameness import parting


class Claim:
    """The pair of the wordings of a claim and that of its formulas, None if these are not made. It never changes."""

    def __init__(self, wordings, formulas):
        self.wordings = wordings
        self.formulas = formulas


class Page:
    """What a sheet has at one moment. It never changes: a deed leads to a new page.

    listed has the letters by their names, worded the wordings of the definitions by their
    names, held the Claims, made the formulas of all letters and definitions by their names.
    """

    def __init__(self, listed, worded, held, made):
        self.listed = listed
        self.worded = worded
        self.held = held
        self.made = made


def affected_by(name, worded):
    """Return the ascending list of the definitions with this name and of those that need it, also by way of others."""
    users = {}
    for user in sorted(list(worded)):
        for needed in worded[user].needs:
            users[needed] = [*users.get(needed, []), user]
    found = {}
    waiting = [name]
    while waiting:
        last = waiting.pop()
        if last not in found:
            found[last] = True
            waiting.extend(users.get(last, []))
    return [user for user in sorted(list(found)) if user in worded]


def in_order(names, worded):
    """Return the list of these definitions in the order in which they are made.

    They are taken one after another, each behind those of them that stand in its text, in
    the order in which these stand there.
    """
    placed = {}
    for name in names:
        waiting = [name]
        while waiting:
            needed = [other for other in worded[waiting[-1]].needs if other in names and other not in placed]
            if needed:
                waiting.append(needed[0])
            else:
                placed[waiting.pop()] = True
    return list(placed)


def is_current(claim, stale):
    """Tell whether the formulas of a claim are made, and of nothing but definitions that are not made anew."""
    if claim.formulas is None:
        return False
    return not any([name in stale for wording in claim.wordings for name in wording.needs])


def checked(held, stale, made):
    """Return these claims with their formulas; Broken for the first one whose sides are not the same."""
    current = [is_current(claim, stale) for claim in held]
    found = []
    for at, claim in enumerate(held):
        formulas = claim.formulas if current[at] else tuple([wording.formula(made) for wording in claim.wordings])
        found.append(Claim(claim.wordings, formulas))
    for at, claim in enumerate(found):
        if not current[at]:
            shown = parting(claim.formulas[0], claim.formulas[1])
            if shown is not None:
                raise Broken(at, shown)
    return tuple(found)


def completed(page, stale):
    """Return the page with all formulas; those of the definitions in this list, and what needs them, are made anew.

    All else was made before, and was the same before, so no error can come from there.
    """
    made = {name: page.made[name] for name in page.made if name not in stale}
    for name in in_order(stale, page.worded):
        made[name] = page.worded[name].formula(made)
    return Page(page.listed, page.worded, checked(page.held, stale, made), made)
