"""The lines that a console answers, cut into their words and texts.

Each function for a form takes what follows the first word and one space, and returns the
tuple of what is told there, or None if it is of another form.
"""

from matrixforms.errors import InvalidLine, NotARatio
from matrixforms.names import is_letter_name, is_size_name
from matrixforms.ratios import Ratio, is_natural_text

# The lines that are one word alone.
ALONE = ("undo", "history", "claims")


def letter_told(rest):
    """Return the name, rows, columns, symmetry and number of a letter."""
    words = rest.split(" ")
    if len(words) < 3 or not (is_letter_name(words[0]) and is_size_name(words[1]) and is_size_name(words[2])):
        return None
    more = words[3:]
    symmetry = "plain"
    if more and more[0] in ("symmetric", "skew"):
        symmetry = more[0]
        more = more[1:]
    if not more:
        more = ["about", "0"]
    if len(more) != 2 or more[0] != "about":
        return None
    try:
        about = Ratio.read(more[1])
    except NotARatio:
        return None
    return (words[0], words[1], words[2], symmetry, about)


def definition_told(rest):
    """Return a name and the text behind the = sign."""
    name, sign, text = rest.partition(" = ")
    return (name, text) if sign and is_letter_name(name) else None


def texts_told(rest):
    """Return the texts before and behind the first = sign."""
    left, sign, right = rest.partition(" = ")
    return (left, right) if sign else None


def text_told(rest):
    """Return the text alone."""
    return (rest,)


def name_told(rest):
    """Return a name alone."""
    return (rest,) if is_letter_name(rest) else None


def index_told(rest):
    """Return an index."""
    return (int(rest),) if is_natural_text(rest) else None


def name_and_text_told(rest):
    """Return a name and the text behind one space."""
    name, space, text = rest.partition(" ")
    return (name, text) if space and is_letter_name(name) else None


FORMS = {
    "letter": letter_told, "let": definition_told, "claim": texts_told, "drop": name_told, "lift": index_told,
    "show": name_told, "test": texts_told, "rank": text_told, "degree": text_told, "solve": name_and_text_told,
    "matters": name_and_text_told,
}


def told_by(line):
    """Return the tuple of the first word of a line and of what it tells; InvalidLine if it is of none of the forms."""
    if not isinstance(line, str):
        raise InvalidLine(line)
    if line in ALONE:
        return (line,)
    word, space, rest = line.partition(" ")
    if not space or word not in FORMS:
        raise InvalidLine(line)
    form_of_rest = FORMS[word]
    found = form_of_rest(rest)
    if found is None:
        raise InvalidLine(line)
    return (word, *found)
