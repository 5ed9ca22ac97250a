"""The deeds that can be done with a sheet: each leads from one page to another one."""

from matrixforms.errors import Circular, InUse, InvalidDeed, InvalidIndex, InvalidName, Taken, UnknownName
from matrixforms.formulas import Letter
from matrixforms.names import is_index, is_letter_name
from matrixforms.pages import Claim, Page, affected_by, completed
from matrixforms.wordings import Wording, check_known


LENGTHS = {"letter": 6, "define": 3, "claim": 3, "drop": 2, "lift": 2}


def left_out(table, name):
    """Return the table without what it has for this name."""
    return {other: table[other] for other in table if other != name}


def with_letter(page, name, rows, columns, symmetry, about):
    """Return the page with one more letter."""
    letter = Letter(name, rows, columns, symmetry=symmetry, about=about)
    if name in page.made:
        raise Taken(name)
    return Page({**page.listed, name: letter}, page.worded, page.held, {**page.made, name: letter})


def with_definition(page, name, text):
    """Return the page with a definition, in the place of the one with this name if there is one."""
    if not is_letter_name(name):
        raise InvalidName(name)
    if name in page.listed:
        raise Taken(name)
    wording = Wording(text)
    check_known((wording,), {**page.made, name: True})
    worded = {**page.worded, name: wording}
    stale = affected_by(name, worded)
    # No other definition needs itself, so if there is a circle now, it goes through this one.
    if any([needed in stale for needed in wording.needs]):
        raise Circular(name)
    return completed(Page(page.listed, worded, page.held, page.made), stale)


def with_claim(page, left, right):
    """Return the page with one more claim."""
    wordings = (Wording(left), Wording(right))
    check_known(wordings, page.made)
    held = (*page.held, Claim(wordings, None))
    return completed(Page(page.listed, page.worded, held, page.made), [])


def without_name(page, name):
    """Return the page without the letter or definition with this name."""
    if not (isinstance(name, str) and name in page.made):
        raise UnknownName(name)
    for user in sorted(list(page.worded)):
        if name in page.worded[user].needs:
            raise InUse(user)
    if any([name in wording.needs for claim in page.held for wording in claim.wordings]):
        raise InUse(None)
    return Page(left_out(page.listed, name), left_out(page.worded, name), page.held, left_out(page.made, name))


def without_claim(page, index):
    """Return the page without the claim with this index."""
    if not is_index(index, len(page.held)):
        raise InvalidIndex(index)
    return Page(page.listed, page.worded, (*page.held[:index], *page.held[index + 1:]), page.made)


ACTIONS = {
    "letter": with_letter, "define": with_definition, "claim": with_claim, "drop": without_name, "lift": without_claim,
}


def after(page, deed):
    """Return the page to which a deed leads."""
    if not (isinstance(deed, tuple) and len(deed) >= 1 and isinstance(deed[0], str)):
        raise InvalidDeed(deed)
    if LENGTHS.get(deed[0]) != len(deed):
        raise InvalidDeed(deed)
    action = ACTIONS[deed[0]]
    told = deed[1:]
    return action(page, *told)
