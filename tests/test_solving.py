import unittest

import reference
from checks import CheckedCase
from drawing import LETTERS, MANY, Drawing, chain, drawn
from matrixforms import solving
from matrixforms.changes import substituted
from matrixforms.errors import (
    InvalidSymmetry, Mismatch, NotAFormula, NotSolvable, TooLarge, TooRich, Unanchored, UnknownName,
)
from matrixforms.forms import form
from matrixforms.formulas import Blocks, Eye, Formula, Letter, Zero
from matrixforms.matrices import Matrix
from matrixforms.ratios import Ratio
from matrixforms.reading import read
from matrixforms.sameness import same
from matrixforms.solving import Solution, solve
from samples import NO_INTEGERS
from test_formula_errors import NO_FORMULAS

A = Letter("A", "n", "n", about=2)
B = Letter("B", "n", "p")
C = Letter("C", "n", "n")
D = Letter("D", "p", "p", about=-1)
S = Letter("S", "n", "n", symmetry="symmetric", about=1)
K = Letter("K", "n", "n", symmetry="skew")
X = Letter("X", "n", "p")
Y = Letter("Y", "p", "n")
Z = Letter("Z", "n", "n", about=Ratio(1, 3))
W = Letter("W", "n", "n")
KNOWN = (A, B, C, D, S, K, X, Y, Z, W)
EYE = Eye("n")
REASONS = ("absent", "transposed", "twice", "middle", "sides")


def of(text):
    return read(text, KNOWN)


class Reasons:
    """The reasons of point 23, for words of at most so many symbols."""

    def __init__(self, one, name, longest):
        self.letters, self.known, self.one = reference.letters_of([one]), {}, one
        self.x, self.turned, self.name = (name, False), (name, True), name
        self.words = list(reference.words(self.letters, longest))
        self.lead = self.number((self.x,))

    def number(self, word):
        if not reference.is_word(word, self.letters):
            return 0
        return reference.coefficient(self.one, word, self.letters, self.known)[0][0]

    def first(self):
        """The first reason and its word, None if there is none for these words."""
        counted = [word for word in self.words if self.number(word)]
        if not any(symbol[0] == self.name for word in counted for symbol in word):
            return "absent", None
        for word in counted:
            if self.turned in word:
                return "transposed", word
        for word in counted:
            if word.count(self.x) > 1:
                return "twice", word
        if not self.lead:
            return "middle", (self.x,)
        for word in self.words:
            for k, symbol in enumerate(word):
                if symbol == self.x and self.number(word) * self.lead != self.number(word[:k + 1]) * self.number(word[k:]):
                    return "sides", word
        return None


class SolvingCase(CheckedCase):
    def assert_solution(self, one, name, longest=3):
        """The solution of a formula is as point 23 says."""
        letter = next(x for x in one.letters if x.name == name)
        found = solve(one, name)
        self.assertIs(type(found), Solution)
        four = (found.before, found.behind, found.remainder, found.answer)
        sides = ((letter.rows, letter.rows), (letter.columns, letter.columns), (letter.rows, letter.columns), (letter.rows, letter.columns))
        for inner, side in zip(four, sides):
            self.assertIsInstance(inner, Formula)
            self.assertEqual((inner.rows, inner.columns), side)
            self.assertTrue(all(x in one.letters and x.name != name for x in inner.letters))
            self.assertTrue({*inner.sizes} <= {*one.sizes})
        told = Reasons(one, name, longest)
        self.assertIsNone(told.first())
        self.assertEqual(found.before.middle, Matrix.eye(1))
        self.assertEqual(reference.table_of(found.behind.middle), [[told.lead]])
        letters, known = told.letters, {}
        for word in reference.words({x: letters[x] for x in letters if x != name}, longest - 1):
            for inner, expected in ((four[0], told.number(word + (told.x,)) / told.lead), (four[1], told.number((told.x,) + word)), (four[2], told.number(word))):
                if not word or reference.ends_of(word[0], letters)[0] == inner.rows[0] and reference.ends_of(word[-1], letters)[1] == inner.columns[0]:
                    self.assertEqual(reference.coefficient(inner, word, letters, known)[0][0], expected)
        constant = Eye(letter.rows) * letter.about if letter.rows == letter.columns else Zero(letter.rows, letter.columns)
        try:
            self.assertIs(same(found.before * (letter - constant) * found.behind + found.remainder, one), True)
            self.assertIs(same(found.answer, constant - found.before.inverse() * found.remainder * found.behind.inverse()), True)
        except (TooRich, TooLarge):
            pass
        return found

    def assert_reason(self, one, name, error):
        """An error has the first reason, as far as words of some symbols more show."""
        longest = len(error.shown or ())
        found = Reasons(one, name, max(longest, 2)).first()
        while found == ("absent", None) != (error.reason, error.shown) and longest < 5:
            longest += 1
            found = Reasons(one, name, longest).first()
        self.assertEqual((error.reason, error.shown), found, str(one))

    def assert_zero(self, drawing, one, name, answer):
        """With the solution in the place of the letter the value is zero."""
        sizes = {size: drawing.random.randint(1, 2) for size in one.sizes}
        tables = {x.name: drawing.table(x, sizes) for x in one.letters}
        try:
            tables[name] = reference.value(answer, sizes, tables)
            found = reference.value(one, sizes, tables)
        except reference.NoInverse:
            return False
        self.assertTrue(reference.is_zero(found))
        return True

    def assert_unsolvable(self, one, name, reason, word):
        self.assert_error(NotSolvable, (reason, word), solve, one, name)
        self.assert_error(NotSolvable, (reason, word), solve, name=name, formula=one)


class SolvableTest(SolvingCase):
    def test_interface(self):
        self.assert_interface(solving, {"Solution": ("before", "behind", "remainder", "answer"), "solve": ()})

    def test_by_hand(self):
        for text, name, four in (
            ("X", "X", ("eye(n)", "eye(p)", "zero(n; p)", "zero(n; p)")), ("X - B", "X", ("eye(n)", "eye(p)", "-B", "B")), ("3 * A * X - B", "X", ("1/2 * A", "6 * eye(p)", "-B", "1/3 * inv(A) * B")),
            ("X * D + B", "X", ("eye(n)", "D", "B", "-B * inv(D)")), ("A * X * D - A * B * D", "X", ("1/2 * A", "2 * D", "-A * B * D", "B")), ("inv(A) * X - 3 * X - inv(A) * B + 3 * B", "X", ("2/5 * (3 * eye(n) - inv(A))", "-5/2 * eye(p)", "3 * B - inv(A) * B", "B")),
            ("Z", "Z", ("eye(n)", "eye(n)", "1/3 * eye(n)", "zero(n; n)")), ("A * Z - eye(n)", "Z", ("1/2 * A", "2 * eye(n)", "1/3 * A - eye(n)", "inv(A)")), ("Z - Z * C - eye(n)", "Z", ("eye(n)", "eye(n) - C", "-2/3 * eye(n) - 1/3 * C", "inv(eye(n) - C)")),
            ("S * Z * inv(S) - C", "Z", ("S", "inv(S)", "1/3 * eye(n) - C", "inv(S) * C * S")), ("W - K", "W", ("eye(n)", "eye(n)", "-K", "K")), ("C - W", "W", ("eye(n)", "-eye(n)", "C", "C")), ("W + W' - W' - A", "W", ("eye(n)", "eye(n)", "-A", "A")),
            ("blocks(A, B)[0, 0] * W", "W", ("1/2 * A", "2 * eye(n)", "zero(n; n)", "zero(n; n)")), ("(W' * A)' - C", "W", ("1/2 * A'", "2 * eye(n)", "-C", "inv(A') * C")), ("inv(A + C) * X * D * inv(D - eye(p)) - B", "X", ("2 * inv(A + C)", "1/2 * D * inv(D - eye(p))", "-B", "(A + C) * B * (D - eye(p)) * inv(D)")),
        ):
            found = self.assert_solution(of(text), name)
            for inner, expected in zip((found.before, found.behind, found.remainder, found.answer), four):
                self.assertIs(same(inner, of(expected)), True, (text, expected))
            put_in = substituted(of(text), {name: found.answer})
            self.assertIs(same(put_in, put_in * 0), True)

    def test_letters_about_other_numbers(self):
        for about in (0, 1, -2, Ratio(5, 7)):
            letter = Letter("V", "n", "n", about=about)
            one = S * letter * A - C * A - S * K
            found = self.assert_solution(one, "V")
            self.assertIs(same(found.answer, S.inverse() * (C * A + S * K) * A.inverse()), True)

    def test_drawn_equations(self):
        drawing, done = Drawing(141), 0
        for name, unknown in (("X", X), ("W", W), ("Z", Z)):
            letters = tuple(x for x in LETTERS if x.name != name)
            drawing.letters = letters
            rows, columns = unknown.rows, unknown.columns
            for _ in range(25):
                left, right, rest = [drawing.formula(*sides, drawing.random.randint(1, 3)) for sides in ((rows, rows), (columns, columns), (rows, columns))]
                try:
                    one = left * unknown * right + rest
                    if one.weight > 14 or form(one).rank > 9:
                        continue
                    found = self.assert_solution(one, name)
                except TooRich:
                    continue
                except NotSolvable as error:
                    self.assert_reason(one, name, error)
                    continue
                except TooLarge as error:
                    self.assertIn(error.limit, (16, 60, 1000))
                    self.assertFalse(within_the_bound(one))
                    continue
                done += self.assert_zero(drawing, one, name, found.answer)
        self.assertGreater(done, 15)

    def test_equal_calls(self):
        one = of("A * X * D - B")
        found, other = solve(one, "X"), solve(one, "X")
        for inner, expected in ((found.before, other.before), (found.behind, other.behind), (found.remainder, other.remainder), (found.answer, other.answer)):
            self.assertEqual(inner, expected)
        self.assertTrue(found)
        self.assertIs(found == found, True)
        self.assertIs(found == other, False)
        for given in NO_INTEGERS:
            self.assertIs(found == given, False)


def within_the_bound(one):
    """Whether the text promises that the solution is not too large."""
    found = form(one)
    d, e = found.rank, len(found.reader.symbols)
    return 3 * (d + 1) * (d + 1) * (2 * e + 1) <= 990 and d <= 15 and e <= 20


class UnsolvableTest(SolvingCase):
    def test_by_hand(self):
        x, xt, b, y, a, w, wt, c, s = ("X", False), ("X", True), ("B", False), ("Y", False), ("A", False), ("W", False), ("W", True), ("C", False), ("S", False)
        for text, name, reason, word in (
            ("X - X + B", "X", "absent", None), ("0 * X", "X", "absent", None), ("blocks(C, X)[0, 0] * B", "X", "absent", None), ("0 * X * D", "X", "absent", None), ("0 * W * C + W' - W'", "W", "absent", None),
            ("W'", "W", "transposed", (wt,)), ("W + C * W'", "W", "transposed", (c, wt)), ("X + B * X' * X", "X", "transposed", (b, xt, x)), ("W * W + W' * C", "W", "transposed", (wt, c)), ("C * W' * W - W", "W", "transposed", (c, wt, w)),
            ("W * W", "W", "twice", (w, w)), ("W + C * W * W", "W", "twice", (c, w, w)), ("X * Y * X", "X", "twice", (x, y, x)), ("X - X * Y * X", "X", "twice", (x, y, x)), ("inv(eye(n) - W)", "W", "twice", (w, w)), ("Z * Z", "Z", "twice", (("Z", False),) * 2),
            ("C * W * C * W + W", "W", "twice", (c, w, c, w)), ("C * W", "W", "middle", (w,)), ("A * W * C", "W", "middle", (w,)), ("C * X + B", "X", "middle", (x,)), ("W * C - W + W", "W", "middle", (w,)),
            ("A * W + W * A", "W", "sides", (a, w, a)), ("A * W + W * C", "W", "sides", (a, w, c)), ("W + C * W * C", "W", "sides", (c, w, c)), ("S * W * S + C * W", "W", "sides", (c, w, s)),
            ("X + C * X * D + C * X", "X", "sides", (c, x, ("D", False))), ("A * X * D + X", "X", "sides", (a, x, ("D", False))), ("W + C * W + C * C * W * C", "W", "sides", (c, c, w, c)),
        ):
            self.assertIn(reason, REASONS)
            self.assertEqual(Reasons(of(text), name, max(3, len(word or ()))).first(), (reason, word), text)
            self.assert_unsolvable(of(text), name, reason, word)

    def test_drawn_formulas(self):
        counts = dict.fromkeys(REASONS + (None,), 0)
        for one in drawn(2500, 4, seed=142, most=7):
            for letter in one.letters:
                if letter.symmetry != "plain" or (letter.rows, letter.columns) != (one.rows, one.columns):
                    continue
                try:
                    found = solve(one, letter.name)
                except NotSolvable as error:
                    if len(one.letters) < 5 and len(error.shown or ()) < 5:
                        self.assert_reason(one, letter.name, error)
                        counts[error.reason] += 1
                except TooLarge:
                    self.assertFalse(within_the_bound(one))
                else:
                    self.assertIsNone(Reasons(one, letter.name, 3).first(), str(one))
                    self.assertIs(type(found), Solution)
                    counts[None] += 1
        self.assertGreater(min(counts.values()), 3, counts)

    def test_drawn_sums_of_two_products(self):
        drawing, counts = Drawing(143, (A, B, S, D)), dict.fromkeys(REASONS + (None,), 0)
        for _ in range(60):
            one, other, left, right = [drawing.formula(side, side, drawing.random.randint(1, 2)) for side in (("n",), ("n",), ("p",), ("p",))]
            equation = one * X * left + other * X * right + B
            if equation.weight > 10:
                continue
            try:
                solve(equation, "X")
                self.assertIsNone(Reasons(equation, "X", 3).first())
                counts[None] += 1
            except NotSolvable as error:
                self.assert_reason(equation, "X", error)
                counts[error.reason] += 1
        self.assertGreater(counts["sides"], 10, counts)
        self.assertGreater(counts[None], 15, counts)

    def test_errors(self):
        for given in NO_FORMULAS:
            self.assert_given(NotAFormula, given, solve, given, "X")
        for given in NO_INTEGERS + ("B", "", "a", 1, A, ("A",)):
            self.assert_given(UnknownName, given, solve, A, given)
        self.assert_error(UnknownName, ("A",), solve, EYE, "A")
        self.assert_error(InvalidSymmetry, ("symmetric",), solve, S * B, "S")
        self.assert_error(InvalidSymmetry, ("skew",), solve, K, "K")
        self.assert_error(Mismatch, ((("n",), ("p",)), (("n",), ("n",))), solve, A * X, "A")
        self.assert_error(Mismatch, ((("n",), ("p",)), (("p",), ("p",))), solve, X * D, "D")
        self.assert_error(Mismatch, ((("n", "n"), ("n",)), (("n",), ("n",))), solve, Blocks(((W,), (W,))), "W")
        rich = chain(MANY[:25])
        self.assert_error(TooRich, (24,), solve, rich, "L0")
        self.assert_error(TooRich, (24,), solve, rich * 0, "L0")
        self.assert_error(TooRich, (24,), solve, rich - rich + W, "W")
        self.assert_error(UnknownName, ("W",), solve, rich, "W")
        self.assert_error(Mismatch, ((("n",), ("p",)), (("n",), ("n",))), solve, rich * X, "L0")

    def test_limits(self):
        many = [x - Eye("n") for x in (Letter(f"V{k}", "n", "n", about=1) for k in range(24))]
        v = Letter("V", "n", "n")
        three = (many[0] + many[1] + many[2] + many[3] + EYE) * v * (many[4] + many[5] + many[6] + many[7] + EYE)
        six = v
        for _ in range(5):
            six = six + many[0] * six
        for one, rank, count in (
            (v - EYE, 1, 1), (three, 3, 9), (six, 6, 2), (v + sum_of(many[:19]), 1, 20), (v * (many[0] ** 6 + EYE) - EYE, 7, 2),
        ):
            found = form(one)
            self.assertEqual((found.rank, len(found.reader.symbols)), (rank, count))
            self.assertIs(within_the_bound(one), True)
            self.assert_solution(one, "V", longest=2)
        # Beyond the bound a solution can be too large.
        self.assert_error(TooLarge, (16,), solve, v * (many[0] ** 9 * many[0] ** 8 + EYE), "V")
        # What cannot be solved is not too large.
        self.assert_error(NotSolvable, ("middle", (("V", False),)), solve, chain(MANY[:20]) * v, "V")


def sum_of(formulas):
    found = formulas[0]
    for one in formulas[1:]:
        found = found + one
    return found


if __name__ == "__main__":
    unittest.main()
