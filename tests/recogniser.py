"""Tells where a text of a formula is wrong, by trying all that the grammar of point 12 allows.

Each function returns the set of the places at which what it is called for can end if it
begins at a place. Each piece that is asked for is noted: the last place at which one was
asked for in vain is that of the first piece that cannot stand there.
"""

import re

LETTER = re.compile(r"[A-Z][a-z0-9]{0,5}")
SIZE = re.compile(r"[a-z]{1,6}")
NUMBER = re.compile(r"(0|-?[1-9][0-9]*)|-?[1-9][0-9]*/[1-9][0-9]*")
WHOLE = re.compile(r"0|[1-9][0-9]*")


def is_number(piece):
    if not NUMBER.fullmatch(piece):
        return False
    if "/" not in piece:
        return True
    top, bottom = map(int, piece.split("/"))
    return bottom > 1 and all(top % k or bottom % k for k in range(2, bottom + 1))


class Recogniser:
    def __init__(self, text):
        self.text = text
        self.last = 0

    def piece(self, place, term=False):
        """The place of the next piece, with its text."""
        while self.text[place:place + 1] == " ":
            place += 1
        found = re.compile(r"\*\*|[A-Za-z0-9/]+|.|$", re.DOTALL).match(self.text, place)[0]
        if term and found == "-":
            run = re.compile(r"[0-9][A-Za-z0-9/]*").match(self.text, place + 1)
            if run:
                found += run[0]
        return place, found

    def take(self, places, fits, term=False):
        """The ends of a piece for which the test holds, from any of these places."""
        ends = set()
        for start in places:
            place, found = self.piece(start, term)
            self.last = max(self.last, place)
            if fits(found):
                ends.add(place + len(found))
        return ends

    def sign(self, places, sign, term=False):
        return self.take(places, lambda piece: piece == sign, term)

    def repeated(self, places, signs, following):
        """The ends of what began before, of the signs with what follows each of them, and so on."""
        found, fresh = set(places), set(places)
        while fresh:
            ends = set()
            for sign in signs:
                ends |= following(self.sign(fresh, sign))
            fresh = ends - found
            found |= ends
        return found

    def formula(self, places):
        return self.repeated(self.term(places), "+-", self.term) if places else set()

    def term(self, places):
        if not places:
            return set()
        found = self.term(self.sign(places, "-", True))
        found |= self.term(self.sign(self.take(places, is_number, True), "*"))
        return found | self.repeated(self.power(places), "*", self.power)

    def power(self, places):
        simple = self.simple(places)
        return simple | self.take(self.sign(simple, "**"), WHOLE.fullmatch)

    def simple(self, places):
        found = fresh = self.atom(places)
        while fresh:
            ends = self.sign(fresh, "'")
            ends |= self.sign(self.whole(self.sign(self.whole(self.sign(fresh, "[")), ",")), "]")
            fresh = ends - found
            found = found | ends
        return found

    def whole(self, places):
        return self.take(places, WHOLE.fullmatch)

    def atom(self, places):
        found = self.take(places, LETTER.fullmatch)
        found |= self.sign(self.formula(self.sign(places, "(")), ")")
        found |= self.sign(self.formula(self.begun(places, "inv")), ")")
        found |= self.sign(self.names(self.begun(places, "eye")), ")")
        found |= self.sign(self.names(self.sign(self.names(self.begun(places, "zero")), ";")), ")")
        inside = self.formula(self.begun(places, "blocks"))
        return found | self.sign(self.repeated(inside, ",;", self.formula), ")")

    def begun(self, places, word):
        return self.sign(self.sign(places, word), "(")

    def names(self, places):
        return self.repeated(self.name(places), ",", self.name)

    def name(self, places):
        return self.take(places, SIZE.fullmatch)


def wrong_place(text):
    """The place of a wrong text, None for the text of a formula."""
    found = Recogniser(text)
    ends = found.formula({0})
    return None if found.take(ends, lambda piece: piece == "") else found.last
