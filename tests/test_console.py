import re
import unittest
from fractions import Fraction

from checks import CheckedCase
from drawing import MANY
from matrixforms import console as module
from matrixforms.console import Console
from matrixforms.errors import (
    Broken, Circular, InUse, InvalidAbout, InvalidIndex, InvalidLine, InvalidSymmetry, Mismatch, NothingToUndo, NotSolvable, Taken, TextError, TooRich,
    Unanchored, UnknownName,
)
from matrixforms.forms import degree, form, matters
from matrixforms.ratios import Ratio
from matrixforms.reading import read
from matrixforms.sameness import parting, same
from matrixforms.sheets import Sheet
from matrixforms.solving import solve
from samples import NO_INTEGERS, ODD_VALUES

LETTERS = ("letter A n n about 1", "letter B n n", "letter S n n symmetric about -1/2", "letter K n n skew", "letter X n p", "letter D p p about 2")


def console_with(*lines):
    console = Console()
    for line in LETTERS + lines:
        console.say(line)
    return console


def state(console):
    """What a console tells of its sheet."""
    return console.say("history"), console.say("claims")


class ConsoleCase(CheckedCase):
    def assert_said(self, console, *pairs):
        for line, answer in pairs:
            found = console.say(line)
            self.assertIs(type(found), str)
            self.assertEqual(found, answer, line)

    def assert_refused(self, console, *cases):
        for line, error, *attributes in cases:
            before = state(console)
            self.assert_error(error, tuple(attributes), console.say, line)
            self.assertEqual(state(console), before)


class LinesTest(ConsoleCase):
    def test_interface(self):
        self.assert_interface(module, {"Console": ("__init__", "say")})

    def test_letters(self):
        console = Console()
        self.assert_said(
            console, ("letter A n n", "ok"), ("letter B n p", "ok"), ("letter S n n symmetric", "ok"), ("letter K p p skew", "ok"), ("letter C n n about 1/2", "ok"), ("letter T n n symmetric about -3", "ok"), ("letter L p p skew about 0", "ok"),
            ("letter U about skew", "ok"), ("letter V skew skew skew about 0", "ok"), ("letter W about about about 3", "ok"), ("history", "10"), ("show A", "A"), ("show W", "W"), ("test K' = -K", "same"), ("test S' = S", "same"), ("show C", "C"),
            ("test inv(C) * C = eye(n)", "same"), ("degree inv(W)", "endless"),
        )
        self.assertEqual(console.say(line="undo"), "ok")
        self.assert_refused(
            console, ("letter A n n", Taken, "A"), ("letter M n p symmetric", InvalidSymmetry, "symmetric"), ("letter M n p skew about 1", InvalidSymmetry, "skew"), ("letter M n p about 1", InvalidAbout, Ratio(1)),
            ("letter M n n skew about 1/2", InvalidAbout, Ratio(1, 2)), ("test inv(B') = B", Mismatch, ("p",), ("n",)), ("test inv(A) = A", Unanchored, "A"),
        )

    def test_definitions_and_claims(self):
        console = console_with()
        self.assert_said(
            console, ("claims", "none"), ("let G = A * B", "ok"), ("let H =  G  - A ", "ok"), ("show H", "((A * B) - A)"), ("show G", "(A * B)"), ("claim G = A*B", "ok"), ("claims", "G = A*B"), ("claim  G*B =  A * B * B ", "ok"),
            ("claims", "G = A*B |  G*B =  A * B * B "), ("history", "10"), ("lift 0", "ok"), ("claims", " G*B =  A * B * B "), ("undo", "ok"), ("claims", "G = A*B |  G*B =  A * B * B "), ("lift 1", "ok"), ("lift 0", "ok"), ("claims", "none"),
            ("drop H", "ok"), ("drop G", "ok"), ("drop X", "ok"), ("history", "15"), ("undo", "ok"), ("show X", "X"), ("let G = A", "ok"), ("let G = B", "ok"), ("show G", "B"), ("undo", "ok"), ("show G", "A"),
        )
        shown = parting(read("A", (read_letter("A"),)), read("B", (read_letter("B"),)))
        self.assert_refused(
            console, ("let A = B", Taken, "A"), ("let G = ", TextError, 0), ("let G =  ", TextError, 1), ("let G = A = B", TextError, 2), ("let Q = R", UnknownName, "R"), ("let G = G", Circular, "G"), ("let Q = X * A", Mismatch, ("p",), ("n",)),
            ("claim  = ", TextError, 0), ("claim = A = B", TextError, 0), ("claim A = B = A", TextError, 2), ("claim A =  = B", TextError, 1), ("claim A = X", Mismatch, (("n",), ("n",)), (("n",), ("p",))), ("claim A = B", Broken, 0, shown), ("claim Q = R +", TextError, 3),
            ("claim Q = R", UnknownName, "Q"), ("claim A = R", UnknownName, "R"), ("claim inv(B) = A ** 0", Unanchored, "B"), ("drop Q", UnknownName, "Q"), ("drop A", InUse, "G"), ("lift 0", InvalidIndex, 0), ("lift 99", InvalidIndex, 99), ("show Q", UnknownName, "Q"),
        )
        console.say("claim K' = -K")
        self.assert_refused(console, ("drop K", InUse, None), ("lift 1", InvalidIndex, 1))

    def test_undo(self):
        console = Console()
        self.assert_refused(console, ("undo", NothingToUndo))
        self.assert_said(console, ("letter A n n", "ok"), ("undo", "ok"), ("history", "0"), ("letter A n p", "ok"))

    def test_questions(self):
        console = console_with("let G = A * B", "let H = inv(eye(p) + X' * X)")
        before = state(console)
        self.assert_said(
            console, ("test G = A * B", "same"), ("test H' = H", "same"), ("test  X*H = inv(eye(n) + X * X') * X", "same"), ("test A = B", "unlike n=1 | A: 1 | B: 0"), ("test A * B = B * A", "unlike n=3 | A: 1 1 0; 0 1 0; 0 0 1 | B: 0 0 0; 0 0 1; 0 0 0"),
            ("test X = 2 * X", "unlike n=1 p=1 | X: 1"), ("test eye(n) = 2 * eye(n)", "unlike n=1"), ("test eye(n, p) = zero(n, p; n, p)", "unlike n=1 p=1"), ("test K = K'", "unlike n=2 | K: 0 1; -1 0"),
            ("test inv(A) = 2 * eye(n) - A", "unlike n=3 | A: 1 1 0; 0 1 1; 0 0 1"), ("rank G", "2"), ("rank  A * B * G - G", "4"), ("rank H", "2"), ("rank eye(n)", "0"), ("rank G - A * B", "0"), ("rank X", "1"), ("degree G", "2"), ("degree G - A * B", "0"),
            ("degree H", "endless"), ("degree eye(n)", "0"), ("degree A ** 9", "9"), ("degree inv(B + eye(n)) * (B + eye(n))", "0"), ("matters A G", "yes"), ("matters B G - A * B", "no"), ("matters X H", "yes"), ("matters X H * inv(H)", "no"), ("matters A  G", "yes"),
        )
        self.assertEqual(state(console), before)
        self.assert_refused(
            console, ("test A = X", Mismatch, (("n",), ("n",)), (("n",), ("p",))), ("test A =  X +", TextError, 4), ("test A + = Q", TextError, 3), ("test Q = R", UnknownName, "Q"), ("test A = R * Q", UnknownName, "R"), ("test inv(B) = A ** 0", Unanchored, "B"), ("test inv(B) = Q", UnknownName, "Q"),
            ("test X * X = inv(Q) * (R + S)", UnknownName, "Q"), ("rank inv(B) * Q", UnknownName, "Q"), ("rank Q", UnknownName, "Q"), ("rank ", TextError, 0), ("rank A = B", TextError, 2), ("degree inv(K)", Unanchored, "K"), ("degree X * X", Mismatch, ("p",), ("n",)), ("matters Q A", UnknownName, "Q"), ("matters A B", UnknownName, "A"), ("matters G G", UnknownName, "G"),
            ("matters Q A +", TextError, 3), ("matters Q R", UnknownName, "R"), ("matters A ", TextError, 0), ("matters A B C", TextError, 2),
        )

    def test_solutions(self):
        console = console_with("let E = A * X * D - X")
        letters = tuple(read_letter(name) for name in "ABSKXD")
        for name, text in (("X", "E"), ("X", "A * X - X * D "), ("B", "B * A - S"), ("A", "A * S + S * K"), ("X", "3 * X"), ("B", "K + B")):
            one = read(text.replace("E", "(A * X * D - X)"), letters)
            try:
                expected = str(solve(one, name).answer)
            except NotSolvable as error:
                self.assert_refused(console, (f"solve {name} {text}", NotSolvable, error.reason, error.shown))
                continue
            self.assert_said(console, (f"solve {name} {text}", expected))
            self.assertIs(same(read(expected, letters), solve(one, name).answer), True)
        self.assert_refused(
            console, ("solve Q A", UnknownName, "Q"), ("solve E E", UnknownName, "E"), ("solve S S", InvalidSymmetry, "symmetric"), ("solve A X", UnknownName, "A"), ("solve A A * X", Mismatch, (("n",), ("p",)), (("n",), ("n",))), ("solve A ", TextError, 0),
            ("solve B B * B", NotSolvable, "twice", (("B", False), ("B", False))), ("solve B A + B - B", NotSolvable, "absent", None), ("solve X X + Q", UnknownName, "Q"), ("solve Q A + (", TextError, 5),
        )

    def test_rich_formulas(self):
        console = Console()
        for letter in MANY[:25]:
            console.say(f"letter {letter.name} n n")
        rich = " * ".join(letter.name for letter in MANY[:25])
        console.say(f"let R = {rich}")
        self.assert_refused(console, *[(line, TooRich, 24) for line in ("rank R", "degree R", "test R = R", "claim R = R", "solve L0 R", "matters L0 R")])
        self.assert_said(console, ("show R", str(read(rich, MANY))))


def read_letter(name):
    sheet = Sheet()
    sheet.do({
        "A": ("letter", "A", "n", "n", "plain", 1), "B": ("letter", "B", "n", "n", "plain", 0), "S": ("letter", "S", "n", "n", "symmetric", Ratio(-1, 2)), "K": ("letter", "K", "n", "n", "skew", 0),
        "X": ("letter", "X", "n", "p", "plain", 0), "D": ("letter", "D", "p", "p", "plain", 2),
    }[name])
    return sheet[name]


class WrongLinesTest(ConsoleCase):
    def test_values_of_other_kinds(self):
        console = Console()
        for given in ODD_VALUES + (1, Ratio(1), ["undo"], ("undo",)):
            self.assert_given(InvalidLine, given, console.say, given)

    def test_lines_that_are_nearly_right(self):
        console = console_with("let G = A", "claim G = A")
        before = state(console)
        right = {
            "letter C n n", "letter C n p", "letter C n n symmetric", "letter C n n skew", "letter C n n about 1", "letter C n n symmetric about -1/2", "let C = A", "claim A = A", "drop X", "lift 0", "undo", "show A", "history", "claims", "test A = B",
            "rank A", "degree A", "solve A A", "matters A A",
        }
        wrong = {"", " ", "x", "=", "letter", "letter ", "letter C", "letter C n", "letter C n ", "letter C n n ", "letter C n n  about 1", "letter C n n plain", "letter C n n plain about 1", "letter C n n about", "letter C n n about ", "letter C n n about 2/4",
                 "letter C n n about 01", "letter C n n about -0", "letter C n n about 1/1", "letter C n n about 1 2", "letter C n n about 1 symmetric", "letter C n n symmetric skew", "letter C n n symmetric symmetric", "letter C n n 1", "letter C n n About 1",
                 "letter C n n about +1", "letter C n n about 1.5", "letter C N n", "letter C n N", "letter c n n", "letter CC n n", "letter Cabcdefg n n", "letter C abcdefg n", "letter C n,p n", "letter C n n skewed", "letter C n n symmetricabout 1", "let", "let ", "let C",
                 "let C =", "let C=A", "let C= A", "let C =A", "let  C = A", "let c = A", "let C  = A", "let = A", "let  = A", "let CC = A", "let C D = A", "let C A", "claim", "claim ", "claim A", "claim A=B", "claim A =B", "claim A= B", "claim = A", "claim  =", "claim A =",
                 "drop", "drop ", "drop  A", "drop A ", "drop a", "drop A B", "drop AA", "lift", "lift ", "lift -1", "lift 00", "lift 01", "lift 0 ", "lift  0", "lift a", "lift 0 0", "lift 1/2", "lift +0", "show", "show ", "show  A", "show A ", "show a", "show A B", "test",
                 "test ", "test A", "test A=B", "test A == B", "rank", "rankA", "degree", "degree\tA", "solve", "solve ", "solve A", "solve  A", "solve a A", "solve  A A", "solve AA A", "matters", "matters ", "matters A", "matters a A", "matters  A A", "undo ", " undo", "undo 1",
                 "history ", "claims ", "claims 0", "Undo", "UNDO", "History", "define C A", "Let C = A", "letter\tC n n", "undo\n", "quit", "help", "letter C n n about 1 ", "letter C  n n"}
        # One character is left out, one space put in, and one letter made a capital one.
        for line in sorted(right):
            for k, character in enumerate(line):
                wrong.add(line[:k] + line[k + 1:])
                wrong.add(line[:k] + character.upper() + line[k + 1:])
                if character == " ":
                    wrong.add(line[:k] + " " + line[k:])
        forms = ("let [A-Z][a-z0-9]{0,5} = .*", "(claim|test) .* = .*", "(rank|degree) .*", "(solve|matters) [A-Z][a-z0-9]{0,5} .*", "(drop|show) [A-Z][a-z0-9]{0,5}", "lift (0|[1-9][0-9]*)", "undo|history|claims",
                 "letter [A-Z][a-z0-9]{0,5} [a-z]{1,6} [a-z]{1,6}( symmetric| skew)?( about (0|-?[1-9][0-9]*(/([2-9]|[1-9][0-9]+))?))?")
        for line in sorted(wrong):
            if any(matches(form, line) for form in forms):
                self.assertNotIn(self.answer(console_with("let G = A", "claim G = A"), line), (InvalidLine,), line)
            else:
                self.assert_given(InvalidLine, line, console.say, line)
        for line in sorted(right):
            self.assertIsInstance(console_with("let G = A", "claim G = A").say(line), str)
        self.assertEqual(state(console), before)

    def answer(self, console, line):
        """The answer, or the class of the error."""
        try:
            return console.say(line)
        except Exception as error:
            return type(error)


def matches(form, line):
    """Whether a line is of this form; a number in it has to be in lowest terms."""
    about = line.partition(" about ")[2] if form.startswith("letter") else ""
    if re.fullmatch("-?[0-9]+/[1-9][0-9]*", about) and str(Fraction(about)) != about:
        return False
    return re.fullmatch(form, line) is not None


class BesideASheetTest(ConsoleCase):
    def test_the_same_deeds(self):
        console, sheet = Console(), Sheet()
        for line, deed in (
            ("letter A n n about 1", ("letter", "A", "n", "n", "plain", 1)), ("letter X n p", ("letter", "X", "n", "p", "plain", 0)), ("let G = X' * A * X", ("define", "G", "X' * A * X")), ("let H = inv(eye(p) + G)", ("define", "H", "inv(eye(p) + G)")),
            ("claim H * G = eye(p) - H", ("claim", "H * G", "eye(p) - H")), ("let G = X'", ("define", "G", "X'")), ("let G = 2 * X' * A * X", ("define", "G", "2 * X' * A * X")), ("drop A", ("drop", "A")), ("claim H = H'", ("claim", "H", "H'")), ("lift 0", ("lift", 0)),
            ("lift 3", ("lift", 3)), ("drop H", ("drop", "H")), ("drop G", ("drop", "G")),
        ):
            try:
                sheet.do(deed)
                self.assertEqual(console.say(line), "ok")
            except Exception as error:
                self.assert_error(type(error), tuple(vars(error).values()), console.say, line)
            self.assertEqual(console.say("history"), str(len(sheet.history)))
            self.assertEqual(console.say("claims"), " | ".join(f"{left} = {right}" for left, right in sheet.claims) or "none")
            for name in [letter.name for letter in sheet.letters] + list(sheet.definitions):
                self.assertEqual(console.say(f"show {name}"), str(sheet[name]))
                one = sheet[name]
                self.assertEqual(console.say(f"rank {name}"), str(form(one).rank))
                self.assertEqual(console.say(f"degree {name}"), "endless" if degree(one) is None else str(degree(one)))
                for letter in one.letters:
                    self.assertEqual(console.say(f"matters {letter.name} {name}"), "yes" if matters(one, letter.name) else "no")

    def test_a_console_equals_itself_alone(self):
        one, other = Console(), Console()
        self.assertIs(one == one, True)
        self.assertIs(one == other, False)
        self.assertIs(bool(one), True)
        for given in NO_INTEGERS:
            self.assertIs(one == given, False)


if __name__ == "__main__":
    unittest.main()
