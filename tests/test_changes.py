import unittest
from random import Random

import firstorder
import reference
from checks import CheckedCase
from drawing import LETTERS, Drawing, drawn, matrix
from matrixforms import changes
from matrixforms.changes import derivative, moved, substituted
from matrixforms.errors import (
    Clash, InvalidAbout, InvalidMapping, InvalidName, Mismatch, NotAFormula, Taken, TooLarge, Unanchored, UnknownName,
)
from matrixforms.forms import degree, form, matters
from matrixforms.formulas import Blocks, Eye, Formula, Letter, Zero
from matrixforms.ratios import Ratio
from matrixforms.reading import read
from matrixforms.relations import relations
from matrixforms.sameness import same
from matrixforms.traces import equal_traces
from matrixforms.values import value
from rewriting import all_in
from samples import NO_INTEGERS, Stubborn
from test_formula_errors import NO_FORMULAS, WRONG_NAMES

A = Letter("A", "n", "n", about=1)
B = Letter("B", "n", "n")
C = Letter("C", "n", "n")
S = Letter("S", "n", "n", symmetry="symmetric", about=2)
K = Letter("K", "n", "n", symmetry="skew")
X = Letter("X", "n", "p")
Y = Letter("Y", "p", "n")
H = Letter("H", "n", "n")
KNOWN = (A, B, C, S, K, X, Y, H)
EYE = Eye("n")
NO_MAPPINGS = ((), (1, 2), [], {1, 2}, None, True, 0, "A", ("A",), [("A", B)], {1: A}, {"A": B, 1: B}, {("A",): B}, {None: B}, {b"A": B}, {True: B}, A, Stubborn())


def of(text):
    return read(text, KNOWN)


class Stage:
    """Drawn sizes and matrices for formulas with the letters that are drawn from."""

    def __init__(self, seed):
        self.drawing = Drawing(seed)

    def sizes(self, formulas, most=2):
        return {name: self.drawing.random.randint(1, most) for one in formulas for name in one.sizes}

    def tables(self, formulas, sizes):
        return {name: self.drawing.table(letter, sizes) for name, letter in reference.letters_of(formulas).items()}


class SubstitutedTest(CheckedCase):
    def test_interface(self):
        self.assert_interface(changes, {"substituted": (), "moved": (), "derivative": ()})

    def test_by_hand(self):
        for text, formulas, expected in (
            ("A", {"A": B}, "B"), ("A", {}, "A"), ("A * B", {"A": B, "B": A}, "(B * A)"), ("A * B", {"A": A * B, "B": A}, "((A * B) * A)"),
            ("inv(A) * A'", {"A": A + H}, "(inv((A + H)) * (A + H)')"), ("(A ** 3)'", {"A": C}, "(C ** 3)'"), ("1/2 * A - eye(n)", {"A": EYE}, "((1/2 * eye(n)) - eye(n))"),
            ("blocks(A, X; Y, eye(p))[0, 1]", {"X": X * Eye("p"), "A": B}, "blocks(B, (X * eye(p)); Y, eye(p))[0, 1]"), ("S * S'", {"S": B}, "(B * B')"),
            ("K + K'", {"K": A}, "(A + A')"), ("eye(n) + A", {"A": Zero("n", "n")}, "(eye(n) + zero(n; n))"), ("X * Y", {"Y": X.transposed}, "(X * X')"),
            ("blocks(A; B)", {"B": A}, "blocks(A; A)"), ("A * B * C", {"A": B, "B": C, "C": A}, "((B * C) * A)"), ("zero(n; p) - X", {"X": X * 2}, "(zero(n; p) - (2 * X))"),
        ):
            found = substituted(of(text), formulas)
            self.assertEqual(str(found), expected)
            self.assertEqual(found, substituted(formulas=dict(formulas), formula=of(text)))

    def test_values(self):
        stage, done = Stage(101), 0
        pool = {}
        for one in drawn(300, 3, seed=102, most=6):
            pool.setdefault((one.rows, one.columns), []).append(one)
        for one in drawn(300, 4, seed=103, most=12):
            chosen = [letter for letter in one.letters if stage.drawing.random.random() < 0.7]
            formulas = {letter.name: stage.drawing.random.choice(pool[letter.rows, letter.columns]) for letter in chosen}
            kept = dict(formulas)
            try:
                found = substituted(one, formulas)
            except (Unanchored, TooLarge):
                continue
            self.assertEqual(formulas, kept)
            every = [one, *formulas.values()]
            sizes = stage.sizes(every)
            tables = stage.tables(every, sizes)
            try:
                inner = {name: reference.value(worth, sizes, tables) for name, worth in formulas.items()}
                expected = reference.value(one, sizes, {**tables, **inner})
            except reference.NoInverse:
                continue
            done += 1
            self.assertEqual(reference.value(found, sizes, tables), expected)
            names = {letter.name for letter in one.letters} - set(formulas) | {letter.name for worth in formulas.values() for letter in worth.letters}
            self.assertEqual({letter.name for letter in found.letters}, names)
        self.assertGreater(done, 150)

    def test_what_no_letter_is_replaced_in_stays(self):
        one = of("A * (B + inv(A))")
        self.assertEqual(substituted(one, {}), one)
        self.assertEqual(substituted(EYE, {}), EYE)
        self.assertIs(type(substituted(one, {"B": C})), type(one))

    def test_parameters(self):
        for given in NO_FORMULAS:
            self.assert_given(NotAFormula, given, substituted, given, {"A": B})
            self.assert_given(NotAFormula, given, substituted, given, None)
            self.assert_given(NotAFormula, given, substituted, A, {"A": given})
        for given in NO_MAPPINGS:
            self.assert_given(InvalidMapping, given, substituted, A, given)
            self.assert_given(InvalidMapping, given, moved, A, given)

    def test_errors_of_the_keys(self):
        self.assert_error(UnknownName, ("B",), substituted, A, {"B": B})
        self.assert_error(UnknownName, ("",), substituted, A, {"": 5, "A": B})
        self.assert_error(UnknownName, ("Z",), substituted, A, {"Z": None, "A": B})
        self.assert_error(NotAFormula, (5,), substituted, A * B, {"B": X, "A": 5, "Z": 1})
        self.assert_error(Mismatch, ((("n",), ("n",)), (("n",), ("p",))), substituted, A * B, {"Z": 1, "B": X, "A": C})
        self.assert_error(Mismatch, ((("n",), ("p",)), (("p",), ("n",))), substituted, X, {"X": Y})
        self.assert_error(Mismatch, ((("n",), ("p",)), (("n",), ("p", "p"))), substituted, X, {"X": Blocks(((X, X),))})
        # Capital letters come before small ones and digits before both.
        self.assert_error(UnknownName, ("A1",), substituted, A, {"Aa": B, "A1": B, "b": B})

    def test_errors_of_making_the_parts(self):
        other = Letter("A", "n", "n")
        self.assert_error(Clash, ("A",), substituted, A * B, {"B": other})
        self.assert_error(Clash, ("A",), substituted, B * C, {"B": other, "C": A})
        self.assertEqual(substituted(A * B, {"A": other, "B": other}), other * other)
        self.assertEqual(substituted(A, {"A": Letter("A", "n", "n", about=7)}).about, Ratio(7))
        # The letters of what is passed may clash as long as those of what is made do not.
        self.assertEqual(str(substituted(A * B, {"A": other * 2})), "((2 * A) * B)")
        self.assert_error(Unanchored, ("B",), substituted, A.inverse(), {"A": B})
        self.assert_error(Unanchored, ("(A + C)",), substituted, (A + B).inverse() + (A - A).transposed * B, {"A": other, "B": C})
        # What stands further to the left is made first, and what is inside before what is outside.
        one = (A + B).inverse() * (S + C)
        self.assert_error(Clash, ("S",), substituted, (B + S) * (A + EYE).inverse(), {"B": Letter("S", "n", "n"), "A": -EYE})
        self.assert_error(Unanchored, ("(zero(n; n) + B)",), substituted, (EYE * 2 + A + B).inverse() * (B + (A + B).inverse()), {"A": Zero("n", "n")})
        self.assert_error(Clash, ("S",), substituted, one, {"A": S, "B": EYE * -1, "C": Letter("S", "n", "n")})
        self.assert_error(Unanchored, ("(B + B)",), substituted, one, {"A": B, "B": B, "C": Letter("S", "n", "n")})

    def test_too_large(self):
        deep = A
        for _ in range(30):
            deep = deep.transposed
        self.assert_error(TooLarge, (60,), substituted, deep * B, {"A": deep})
        self.assertEqual(substituted(deep, {"A": deep.parts[0]}).levels, 60)
        wide = A
        while wide.weight < 500:
            wide = wide + wide
        self.assert_error(TooLarge, (1000,), substituted, wide, {"A": A + B})
        self.assertEqual(substituted(A ** 9, {"A": (A ** 9) * EYE}).weight, 90)
        self.assert_error(TooLarge, (1000,), substituted, A ** 9, {"A": B ** 9 * B ** 9 * B ** 9 * B ** 9 * (B ** 9) ** 9})


class MovedTest(CheckedCase):
    def test_by_hand(self):
        one = of("inv(A) * S + K * B")
        found = moved(one, {"A": -2, "B": Ratio(1, 3)})
        self.assertEqual(str(found), str(one))
        self.assertEqual([(x.name, str(x.about), x.symmetry) for x in found.letters], [("A", "-2", "plain"), ("B", "1/3", "plain"), ("K", "0", "skew"), ("S", "2", "symmetric")])
        self.assertEqual(str(found.middle), "-1")
        self.assertEqual(moved(numbers={}, formula=one), one)
        self.assertEqual(moved(X, {"X": 0}), X)
        self.assertEqual(moved(K * S, {"K": Ratio(0), "S": 5}).letters[1].about, Ratio(5))
        self.assertEqual(moved(B.transposed, {"B": 1}), Letter("B", "n", "n", about=1).transposed)

    def test_answers_stay(self):
        done = traced = 0
        numbers = Random(104)
        for one in drawn(200, 4, seed=105, most=8):
            about = {x.name: numbers.choice((0, 1, Ratio(5, 3), -2)) for x in one.letters if x.rows == x.columns and x.symmetry != "skew"}
            try:
                found, other = moved(one, about), moved(one * 2 - one.transposed.transposed, about)
            except Unanchored:
                continue
            done += 1
            self.assertEqual([(x.name, x.rows, x.symmetry) for x in found.letters], [(x.name, x.rows, x.symmetry) for x in one.letters])
            old = {x.name: x.about for x in one.letters}
            self.assertEqual([x.about for x in found.letters], [Ratio(1) * about.get(x.name, old[x.name]) for x in found.letters])
            self.assertIs(same(found, other), True)
            self.assertEqual(degree(found), degree(one))
            self.assertEqual(form(found).rank, form(one).rank)
            self.assertEqual([matters(found, x.name) for x in found.letters], [matters(one, x.name) for x in one.letters])
            self.assertEqual(relations(found, found * 2, found.transposed.transposed), relations(one, one * 2, one))
            if one.rows == one.columns and form(one + one.transposed).rank <= 5:
                traced += 1
                self.assertIs(equal_traces(found, found.transposed), True)
                self.assertIs(equal_traces(found, other - found + found * 0), equal_traces(one, one * 2 - one.transposed.transposed - one))
        self.assertGreater(done, 100)
        self.assertGreater(traced, 20)

    def test_errors(self):
        for given in NO_FORMULAS:
            self.assert_given(NotAFormula, given, moved, given, {"A": 1})
        for given in NO_INTEGERS + (A, "1", (0, 1)):
            self.assert_given(InvalidAbout, given, moved, A, {"A": given})
        for letter in (X, K):
            for given in (1, Ratio(-1, 2)):
                self.assert_given(InvalidAbout, given, moved, letter, {letter.name: given})
        self.assert_error(UnknownName, ("B",), moved, A, {"B": "x", "C": 1})
        self.assert_error(InvalidAbout, ("x",), moved, A * B, {"B": 1, "A": "x", "Z": 1})
        self.assert_error(InvalidAbout, (1,), moved, A * K, {"K": 1, "A": 2, "Z": 1})
        self.assert_error(Unanchored, ("A",), moved, A.inverse() * B, {"A": 0})
        self.assert_error(Unanchored, ("(A + B)",), moved, (A + B).inverse() * B.transposed, {"B": -1})


def slopes_of(formulas):
    """The derivative for each letter that a formula has, with a name that it does not have."""
    for one in formulas:
        for letter in one.letters:
            yield one, letter, derivative(one, letter.name, "H")


class DerivativeTest(CheckedCase):
    def assert_slope(self, stage, one, letter, found):
        """The value of the derivative at drawn matrices is the change in first order, if the formula has a value there."""
        sizes = stage.sizes([one])
        tables = stage.tables([one], sizes)
        direction = stage.drawing.table(letter, sizes)
        try:
            expected = firstorder.change(one, sizes, tables, letter.name, direction)
        except reference.NoInverse:
            return False
        every = {"H": direction, **tables}
        self.assertEqual(reference.value(found, sizes, every), expected, (str(one), letter.name))
        self.assertEqual(reference.table_of(value(found, sizes, {name: matrix(table) for name, table in every.items()})), expected)
        return True

    def test_drawn_formulas(self):
        stage, done = Stage(106), 0
        for one, letter, found in slopes_of(drawn(150, 5, seed=107, most=14)):
            done += self.assert_slope(stage, one, letter, found)
            step = Letter("H", letter.rows[0], letter.columns[0], symmetry=letter.symmetry)
            self.assertTrue(all(x in (*one.letters, step) for x in found.letters))
            self.assertTrue({*found.sizes} <= {*one.sizes})
            self.assertEqual((found.rows, found.columns), (one.rows, one.columns))
            # Only inverses of the formula stand in it, so it has a value wherever the formula has one.
            own = {str(x) for x in all_in(one) if x.kind == "inverse"}
            self.assertTrue({str(x) for x in all_in(found) if x.kind == "inverse"} <= own)
        self.assertGreater(done, 250)

    def test_each_kind_by_hand(self):
        h, hs, hk = Letter("H", "n", "n"), Letter("H", "n", "n", symmetry="symmetric"), Letter("H", "n", "n", symmetry="skew")
        hx = Letter("H", "n", "p")
        zero = Zero("n", "n")
        known = {"": (h, A, B, C, X, Y), "S": (hs, S, B), "K": (hk, K, B), "X": (hx, A, X, Y, B)}
        for name, text, expected in (
            ("A", "A", "H"), ("A", "A'", "H'"), ("A", "A + B", "H"), ("A", "B + A", "H"), ("A", "A + A'", "H + H'"), ("A", "A - B", "H"), ("A", "B - A", "-H"),
            ("A", "A - A * A", "H - H * A - A * H"), ("A", "3 * A", "3 * H"), ("A", "A * B", "H * B"), ("A", "B * A * C", "B * H * C"), ("A", "A ** 1", "H"),
            ("A", "A ** 3", "H * A * A + A * H * A + A * A * H"), ("A", "inv(A)", "-inv(A) * H * inv(A)"), ("A", "inv(inv(A))", "H"),
            ("A", "inv(eye(n) + inv(A + B))", "inv(eye(n) + inv(A + B)) * inv(A + B) * H * inv(A + B) * inv(eye(n) + inv(A + B))"),
            ("A", "inv(A)' * B", "-inv(A)' * H' * inv(A)' * B"), ("A", "blocks(A, B; B, A')", "blocks(H, zero(n; n); zero(n; n), H')"),
            ("A", "blocks(A, B; B, A')[0, 1]", "zero(n; n)"), ("A", "blocks(A * B, B)[0, 0]", "H * B"), ("A", "A - A", "zero(n; n)"),
            ("A", "inv(blocks(A, X; Y, eye(p)))[0, 0]", "-inv(A - X * Y) * H * inv(A - X * Y)"),
            ("S", "S * S", "H * S + S * H"), ("S", "S' * B", "H * B"), ("S", "inv(S)", "-inv(S) * H * inv(S)"), ("K", "K * K'", "-H * K - K * H"), ("K", "K'", "-H"),
            ("X", "X * X'", "H * X' + X * H'"), ("X", "inv(eye(p) + X' * A * X) * X'", "inv(eye(p) + X' * A * X) * H' - inv(eye(p) + X' * A * X) * (H' * A * X + X' * A * H) * inv(eye(p) + X' * A * X) * X'"),
            ("X", "Y * X * Y", "Y * H * Y"),
        ):
            letters = known.get(name, known[""])
            found = derivative(formula=read(text, letters[1:]), name=name, direction="H")
            self.assertIs(same(found, read(expected, letters)), True, text)
        self.assertIs(same(derivative(A * B, "A", "H1"), Letter("H1", "n", "n") * B), True)
        self.assertIs(same(derivative(A - A, "A", "H"), zero), True)

    def test_the_direction_is_a_letter_like_the_other_one(self):
        for letter in LETTERS:
            step = Letter("Dir1", letter.rows[0], letter.columns[0], symmetry=letter.symmetry)
            self.assertEqual(derivative(letter, letter.name, "Dir1"), step)
        self.assertEqual(derivative(A, "A", "A1").about, Ratio(0))

    def test_where_other_inverses_have_no_value(self):
        # The formula has a value for singular X and B here, and so has the derivative.
        one = of("inv(eye(n) + B * A) * B")
        stage = Stage(108)
        sizes = {"n": 2}
        tables = {"A": reference.zeros(2, 2), "B": reference.zeros(2, 2)}
        for name in "AB":
            direction = stage.drawing.table(A, sizes)
            expected = firstorder.change(one, sizes, tables, name, direction)
            self.assertEqual(reference.value(derivative(one, name, "H"), sizes, {**tables, "H": direction}), expected)

    def test_errors(self):
        for given in NO_FORMULAS:
            self.assert_given(NotAFormula, given, derivative, given, "A", "H")
            self.assert_given(NotAFormula, given, derivative, given, None, None)
        for given in NO_INTEGERS + WRONG_NAMES + ("B", "H", 1, A):
            self.assert_given(UnknownName, given, derivative, A, given, "H")
            self.assert_given(UnknownName, given, derivative, A * C, given, "A")
            self.assert_given(UnknownName, given, derivative, A * C, name=given, direction=None)
        for given in [x for x in NO_INTEGERS if not isinstance(x, str)] + list(WRONG_NAMES) + [1, A]:
            self.assert_given(InvalidName, given, derivative, A, "A", given)
        for given in ("A", "B"):
            self.assert_error(Taken, (given,), derivative, A * B, "A", given)
        self.assert_error(UnknownName, ("A",), derivative, EYE, "A", "H")

    def test_too_large(self):
        deep = A
        for _ in range(25):
            deep = deep.inverse()
        self.assert_error(TooLarge, (60,), derivative, deep, "A", "H")
        wide = A
        while wide.weight < 256:
            wide = wide * wide
        self.assert_error(TooLarge, (1000,), derivative, wide, "A", "H")

    def test_never_too_large_within_the_bound(self):
        side = tuple("abcdefgh")
        stage, done = Stage(109), 0
        names = Random(110)
        for one in [x for x in drawn(1500, 9, seed=111, most=8) if x.levels <= 10 and inverses_within(x) <= 2]:
            for letter in one.letters:
                found = derivative(one, letter.name, "H")
                done += 1
                if names.random() < 0.1:
                    self.assert_slope(stage, one, letter, found)
        self.assertGreater(done, 800)
        heavy = ((A.inverse().inverse() ** 2) ** 2) ** 2
        full = Blocks(tuple((Letter(f"L{k}", name, "a"),) for k, name in enumerate(side)))
        wide = (Eye(side) + Zero(side, side)) ** 2 * Zero(side, "n") * (A * A).inverse().inverse()
        sized = Blocks(((Eye(("n",) * 7), Zero(("n",) * 7, "n")), (Zero("n", ("n",) * 7), A.inverse() * (B + A).inverse())))
        for one in (heavy, (A ** 8).inverse().inverse(), ((A * A * A * A).inverse().inverse() ** 2).transposed.transposed, full, wide, sized.inverse() ** 1):
            self.assertLessEqual(one.weight, 8)
            self.assertLessEqual(one.levels, 10)
            for letter in one.letters:
                self.assertIsInstance(derivative(one, letter.name, "H"), Formula)


def inverses_within(one):
    """The greatest number of inverses that stand within one another."""
    return max([inverses_within(part) for part in one.parts], default=0) + (one.kind == "inverse")


if __name__ == "__main__":
    unittest.main()
