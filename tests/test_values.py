import unittest
from fractions import Fraction

import reference
from checks import CheckedCase
from drawing import Drawing, drawn, matrix
from matrixforms import values
from matrixforms.errors import InvalidMapping, NoMatrix, NoSize, NotAFormula, NoValue
from matrixforms.formulas import Blocks, Eye, Letter, Zero
from matrixforms.matrices import Matrix
from matrixforms.ratios import Ratio
from matrixforms.reading import read
from matrixforms.values import value
from samples import NO_INTEGERS

A = Letter("A", "n", "n", about=1)
B = Letter("B", "n", "n")
S = Letter("S", "n", "n", symmetry="symmetric")
K = Letter("K", "n", "n", symmetry="skew")
X = Letter("X", "n", "p")
KNOWN = (A, B, S, K, X)
SIZES = {"n": 2, "p": 1}
MATRICES = {
    "A": Matrix.read("1 2; 3 4"), "B": Matrix.read("1 1; 1 1"), "S": Matrix.read("0 5; 5 1/2"), "K": Matrix.read("0 -3; 3 0"),
    "X": Matrix.read("1; -2"),
}


def at(text):
    """The text of the value of the formula with a text."""
    return str(value(read(text, KNOWN), SIZES, MATRICES))


class ValuesTest(CheckedCase):
    def test_interface(self):
        self.assert_interface(values, {"value": ()})

    def test_each_kind(self):
        for text, expected in (
            ("A", "1 2; 3 4"), ("eye(n)", "1 0; 0 1"), ("eye(p, n)", "1 0 0; 0 1 0; 0 0 1"), ("zero(n; p)", "0; 0"), ("zero(p, p; n, p)", "0 0 0; 0 0 0"),
            ("A + B", "2 3; 4 5"), ("A - B", "0 1; 2 3"), ("1/2 * A", "1/2 1; 3/2 2"), ("-A", "-1 -2; -3 -4"), ("A * X", "-3; -5"), ("X' * X", "5"),
            ("A'", "1 3; 2 4"), ("inv(A)", "-2 1; 3/2 -1/2"), ("A ** 1", "1 2; 3 4"), ("A ** 3", "37 54; 81 118"), ("blocks(A, X)", "1 2 1; 3 4 -2"),
            ("blocks(A; X')", "1 2; 3 4; 1 -2"), ("blocks(A, X; X', eye(p))", "1 2 1; 3 4 -2; 1 -2 1"), ("blocks(A, X; X', eye(p))[0, 1]", "1; -2"),
            ("blocks(A, X; X', eye(p))[1, 0]", "1 -2"), ("blocks(A, X; X', eye(p))[1, 1]", "1"), ("blocks(X, A, X)[0, 1]", "1 2; 3 4"),
            ("S", "0 5; 5 1/2"), ("K * K", "-9 0; 0 -9"), ("0 * A", "0 0; 0 0"),
        ):
            self.assertEqual(at(text), expected, text)

    def test_by_name(self):
        self.assertEqual(value(sizes=SIZES, matrices=MATRICES, formula=A), MATRICES["A"])

    def test_drawn_formulas(self):
        drawing = Drawing(41)
        found = 0
        for one in drawn(300, 5, seed=42, most=60):
            sizes = {name: drawing.random.randint(1, 3) for name in "np"}
            tables = {letter.name: drawing.table(letter, sizes) for letter in one.letters}
            matrices = {name: matrix(table) for name, table in tables.items()}
            try:
                expected = reference.value(one, sizes, tables)
            except reference.NoInverse:
                self.assert_error(NoValue, (), value, one, sizes, matrices)
                continue
            found += 1
            result = value(one, sizes, matrices)
            self.assertIs(type(result), Matrix)
            self.assertEqual(reference.table_of(result), expected)
            self.assertEqual(value(one, sizes, matrices), result)
        self.assertGreater(found, 200)

    def test_the_middle_is_the_value_of_the_numbers(self):
        for one in drawn(100, 5, seed=43):
            matrices = {letter.name: letter.middle for letter in one.letters}
            self.assertEqual(value(one, {"n": 1, "p": 1}, matrices), one.middle)

    def test_heavy_formulas(self):
        one = A
        for _ in range(9):
            one = (one + one) * Ratio(1, 2)
        self.assertEqual(value(one, SIZES, MATRICES), MATRICES["A"])
        self.assertEqual(value(((Eye("n") ** 9) ** 9) ** 9, {"n": 3}, {}), Matrix.eye(3))

    def test_nothing_changes(self):
        sizes, matrices = dict(SIZES), dict(MATRICES)
        one = value(A * B + S, sizes, matrices)
        self.assertEqual((sizes, matrices), (SIZES, MATRICES))
        self.assertEqual(list(sizes), list(SIZES))
        self.assertEqual(value(A * B + S, sizes, matrices), one)

    def test_more_keys_than_are_needed(self):
        self.assertEqual(value(A, {"n": 2, "q": "x", 5: None, None: -1}, {"A": Matrix.eye(2), "Q": 7, 1: (), "X": None}), Matrix.eye(2))


class NoValueTest(CheckedCase):
    def test_no_value(self):
        zeros = {"A": Matrix.zero(2, 2), "B": Matrix.zero(2, 2), "X": Matrix.zero(2, 1), "S": Matrix.zero(2, 2)}
        for text in (
            "inv(A)", "0 * inv(A)", "inv(A) * zero(n; p)", "zero(p; n) * inv(A)", "inv(A) - inv(A)", "blocks(B, inv(A))[0, 0]", "blocks(inv(A), X)[0, 1]",
            "blocks(B, X; zero(p; n), eye(p) + X' * inv(A) * X)[1, 1]", "(0 * inv(A)) ** 2", "(0 * inv(A))'", "inv(eye(n) + 0 * inv(A))",
            "inv(inv(A))", "A * inv(A)", "inv(blocks(A, X; X', eye(p)))", "inv(A)[0, 0]", "inv(A ** 2)", "inv(2 * A)", "inv(A')",
        ):
            self.assert_error(NoValue, (), value, read(text, KNOWN), SIZES, zeros)
        for text in ("inv(eye(n) + A)", "inv(eye(n) - B * A)", "inv(A + eye(n))[0, 0]"):
            value(read(text, KNOWN), SIZES, zeros)

    def test_singular_only_at_some_matrices(self):
        one = read("inv(A - S)", KNOWN)
        self.assertEqual(str(value(one, {"n": 1}, {"A": Matrix.read("3"), "S": Matrix.read("1")})), "1/2")
        self.assert_error(NoValue, (), value, one, {"n": 1}, {"A": Matrix.read("3"), "S": Matrix.read("3")})


class ErrorsTest(CheckedCase):
    def test_no_formulas(self):
        for given in NO_INTEGERS + (1, Matrix.eye(2), "A"):
            self.assert_given(NotAFormula, given, value, given, SIZES, MATRICES)
            self.assert_given(NotAFormula, given, value, given, None, None)

    def test_no_mappings(self):
        for given in NO_INTEGERS + (1, (("n", 2),), [("n", 2)], Matrix.eye(2)):
            if not isinstance(given, dict):
                self.assert_given(InvalidMapping, given, value, A, given, MATRICES)
                self.assert_given(InvalidMapping, given, value, A, SIZES, given)
                self.assert_given(InvalidMapping, given, value, A, given, 5)
                self.assert_given(InvalidMapping, given, value, A, {}, given)

    def test_sizes(self):
        one = Zero(("q", "b"), "n") * X * Zero("p", "a")
        full = {"a": 1, "b": 1, "n": 2, "p": 1, "q": 1}
        self.assertEqual(value(one, full, MATRICES), Matrix.zero(2, 1))
        for name in full:
            for given in NO_INTEGERS + (0, -1, Ratio(1), Ratio(2), Fraction(1)):
                self.assert_error(NoSize, (name,), value, one, {**full, name: given}, {})
            self.assert_error(NoSize, (name,), value, one, {key: size for key, size in full.items() if key != name}, {})
        self.assert_error(NoSize, ("a",), value, one, {}, {})
        self.assert_error(NoSize, ("b",), value, one, {**full, "q": 0, "b": 0, "p": None}, {})
        self.assert_error(NoSize, ("n",), value, A, {"N": 2, 0: 2, ("n",): 2}, MATRICES)

    def test_matrices(self):
        one = A + B * (S + K)
        for name in ("A", "B", "S", "K"):
            for given in NO_INTEGERS + (1, ((1, 0), (0, 1)), Matrix.eye(1), Matrix.eye(3), Matrix.zero(2, 1), Matrix.zero(1, 2), "1 0; 0 1", A):
                self.assert_error(NoMatrix, (name,), value, one, SIZES, {**MATRICES, name: given})
            self.assert_error(NoMatrix, (name,), value, one, SIZES, {key: found for key, found in MATRICES.items() if key != name})
        self.assert_error(NoMatrix, ("A",), value, one, SIZES, {})
        self.assert_error(NoMatrix, ("B",), value, one, SIZES, {"A": Matrix.eye(2), "K": MATRICES["K"]})
        self.assert_error(NoMatrix, ("X",), value, X, SIZES, {"X": Matrix.zero(1, 2)})
        self.assert_error(NoMatrix, ("X",), value, X.transposed, SIZES, {"X": Matrix.zero(1, 2)})

    def test_symmetries(self):
        for text in ("1 2; 3 4", "0 1; -1 0", "0 1; 2 0"):
            self.assert_error(NoMatrix, ("S",), value, S, SIZES, {"S": Matrix.read(text)})
        for text in ("1 2; 2 1", "0 1; 1 0", "1 1; -1 0", "0 1; -2 0", "1 0; 0 0"):
            self.assert_error(NoMatrix, ("K",), value, K, SIZES, {"K": Matrix.read(text)})
        for text in ("0 0; 0 0", "0 1/2; -1/2 0"):
            self.assertEqual(str(value(K, SIZES, {"K": Matrix.read(text)})), text)
        self.assertEqual(str(value(S, SIZES, {"S": Matrix.read("1 2; 2 -1")})), "1 2; 2 -1")

    def test_the_order_of_errors(self):
        self.assert_error(NoSize, ("n",), value, A.inverse(), {}, {})
        self.assert_error(NoMatrix, ("A",), value, A.inverse() * B, SIZES, {"A": None})
        self.assert_error(NoMatrix, ("B",), value, A.inverse() * B, SIZES, {"A": Matrix.zero(2, 2)})
        self.assert_error(NoValue, (), value, A.inverse() * B, SIZES, {"A": Matrix.zero(2, 2), "B": Matrix.eye(2)})

    def test_letters_with_unlike_sizes(self):
        self.assertEqual(str(value(Blocks(((X,),)), {"n": 1, "p": 3}, {"X": Matrix.read("1 2 3")})), "1 2 3")
        self.assert_error(NoMatrix, ("X",), value, X, {"n": 3, "p": 1}, {"X": Matrix.read("1 2 3")})


if __name__ == "__main__":
    unittest.main()
