"""Cuts the text of a formula into its pieces."""

from matrixforms.errors import NotARatio, TextError
from matrixforms.names import is_size_name
from matrixforms.ratios import Ratio, is_natural_text


def number_of(piece):
    """Return the Ratio with this text, None if there is none."""
    try:
        return Ratio.read(piece)
    except NotARatio:
        return None


def is_in_run(text, place):
    """Tell whether a letter, a digit or / stands at this place."""
    if place >= len(text):
        return False
    character = text[place]
    return character == "/" or (character.isascii() and character.isalnum())


class Pieces:
    """The pieces of a text, taken one after another."""

    def __init__(self, text):
        self._text = text
        self._at = 0
        self._skip_spaces()

    def here(self):
        """Return the index of the next piece, or the length of the text if there is none."""
        return self._at

    def ahead(self):
        """Return the next piece where no TERM may begin, "" if there is none."""
        return self._piece_at(self._at)

    def ahead_of_term(self):
        """Return the next piece where a TERM may begin: a - and a number behind it are one piece there."""
        piece = self._piece_at(self._at)
        if piece == "-":
            run = self._piece_at(self._at + 1)
            if run[:1].isdigit():
                return piece + run
        return piece

    def take(self, piece):
        """Go on behind the next piece, which is this one."""
        self._at += len(piece)
        self._skip_spaces()

    def demand(self, piece):
        """Go on behind the next piece; TextError if it is not this one."""
        if self.ahead() != piece:
            raise TextError(self._at)
        self.take(piece)

    def take_whole(self):
        """Go on behind an integer and return it; TextError if the next piece is none."""
        piece = self.ahead()
        if not is_natural_text(piece):
            raise TextError(self._at)
        self.take(piece)
        return int(piece)

    def take_names(self):
        """Go on behind one or more size names and return their tuple; TextError if there are none."""
        names = [self._take_name()]
        while self.ahead() == ",":
            self.take(",")
            names.append(self._take_name())
        return tuple(names)

    def _take_name(self):
        piece = self.ahead()
        if not is_size_name(piece):
            raise TextError(self._at)
        self.take(piece)
        return piece

    def _piece_at(self, place):
        end = place
        while is_in_run(self._text, end):
            end += 1
        if end > place:
            return self._text[place:end]
        if self._text[place:place + 2] == "**":
            return "**"
        return self._text[place:place + 1]

    def _skip_spaces(self):
        while self._text[self._at:self._at + 1] == " ":
            self._at += 1
