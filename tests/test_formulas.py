import unittest

import reference
from checks import CheckedCase
from drawing import drawn
from matrixforms import formulas
from matrixforms.errors import TooLarge
from matrixforms.formulas import (
    Blocks, Corner, Difference, Eye, Formula, Inverse, Letter, Power, Product, Scaled, Sum, Transposed, Zero,
)
from matrixforms.matrices import Matrix
from matrixforms.ratios import Ratio
from samples import NO_INTEGERS, Agreeing, Stubborn

KINDS = (Letter, Eye, Zero, Sum, Difference, Scaled, Product, Transposed, Inverse, Power, Blocks, Corner)
GENERAL = (
    "kind", "rows", "columns", "middle", "letters", "sizes", "weight", "levels", "parts", "transposed", "__add__", "__sub__",
    "__mul__", "__neg__", "__pow__", "__getitem__", "inverse", "__str__", "__repr__", "__eq__",
)
A = Letter("A", "n", "n", about=1)
B = Letter("B", "n", "n")
S = Letter("S", "n", "n", symmetry="symmetric", about=Ratio(-1, 2))
K = Letter("K", "p", "p", symmetry="skew")
X = Letter("X", "n", "p")
Y = Letter("Y", "p", "n")


class KindsTest(CheckedCase):
    def assert_formula(self, one, expected):
        """All properties are these; for letters None stands for the formula alone."""
        kind, text, rows, columns, middle, letters, sizes, weight, levels, parts = expected
        self.assertIsInstance(one, Formula)
        self.assert_alike(one.kind, kind)
        self.assert_alike(str(one), text)
        self.assert_alike(repr(one), f"Formula({text!r})")
        self.assert_alike(one.rows, rows)
        self.assert_alike(one.columns, columns)
        self.assertIs(type(one.middle), Matrix)
        self.assertEqual(str(one.middle), middle)
        self.assert_alike(one.letters, letters)
        self.assert_alike(one.sizes, sizes)
        self.assert_alike(one.weight, weight)
        self.assert_alike(one.levels, levels)
        self.assert_alike(one.parts, parts)
        self.assertTrue(one)
        if levels < 60:
            self.assertEqual(one.transposed, Transposed(one))
            self.assertIs(type(one.transposed), Transposed)

    def test_interface(self):
        listed = {kind.__name__: ("__init__",) for kind in KINDS}
        listed["Letter"] += ("name", "symmetry", "about")
        listed["Scaled"] += ("number",)
        listed["Power"] += ("exponent",)
        listed["Blocks"] += ("table",)
        listed["Corner"] += ("row", "column")
        listed["Formula"] = GENERAL
        self.assert_interface(formulas, listed)
        for kind in KINDS:
            self.assertTrue(issubclass(kind, Formula))
            self.assertFalse(any(issubclass(kind, other) for other in KINDS if other is not kind))

    def test_letter(self):
        for one, symmetry, about, middle in (
            (Letter("X", "n", "p"), "plain", Ratio(0), "0"),
            (Letter(columns="p", rows="n", name="X"), "plain", Ratio(0), "0"),
            (Letter("X", "n", "p", symmetry="plain", about=Ratio(0)), "plain", Ratio(0), "0"),
        ):
            self.assert_formula(one, ("letter", "X", ("n",), ("p",), middle, (one,), ("n", "p"), 1, 1, ()))
            self.assertEqual((one.name, one.symmetry), ("X", symmetry))
            self.assert_alike(one.about, about)
        for symmetry, about, expected in (
            ("plain", 0, "0"), ("plain", 3, "3"), ("plain", Ratio(-1, 2), "-1/2"), ("symmetric", 2, "2"), ("skew", 0, "0"),
            ("skew", Ratio(0), "0"), ("symmetric", 10 ** 40 - 1, str(10 ** 40 - 1)),
        ):
            one = Letter("Ab3", "size", "size", about=about, symmetry=symmetry)
            self.assert_formula(one, ("letter", "Ab3", ("size",), ("size",), expected, (one,), ("size",), 1, 1, ()))
            self.assertEqual((one.name, one.symmetry), ("Ab3", symmetry))
            self.assert_alike(one.about, Ratio.read(expected))

    def test_names_of_letters_and_sizes(self):
        for name in ("A", "Z", "Abcdef", "A12345", "Az09zA"[:5], "Z0", "Inv", "Eye"):
            self.assertEqual(Letter(name, "n", "n").name, name)
        for size in ("a", "z", "abcdef", "inv", "eye", "zero", "blocks"):
            self.assertEqual(Letter("A", size, size).rows, (size,))
            self.assertEqual(Eye(size).rows, (size,))

    def test_eye_and_zero(self):
        for one in (Eye("n"), Eye(("n",)), Eye(side="n")):
            self.assert_formula(one, ("eye", "eye(n)", ("n",), ("n",), "1", (), ("n",), 1, 1, ()))
        one = Eye(side=("p", "n", "p"))
        self.assert_formula(one, ("eye", "eye(p, n, p)", ("p", "n", "p"), ("p", "n", "p"), "1 0 0; 0 1 0; 0 0 1", (), ("n", "p"), 1, 1, ()))
        for one in (Zero("n", "p"), Zero(("n",), "p"), Zero(columns=("p",), rows="n")):
            self.assert_formula(one, ("zero", "zero(n; p)", ("n",), ("p",), "0", (), ("n", "p"), 1, 1, ()))
        one = Zero(("q", "n"), ("n", "n", "b"))
        self.assert_formula(one, ("zero", "zero(q, n; n, n, b)", ("q", "n"), ("n", "n", "b"), "0 0 0; 0 0 0", (), ("b", "n", "q"), 1, 1, ()))

    def test_sum_and_difference(self):
        for one in (Sum(A, S), Sum(other=S, formula=A), A + S):
            self.assertIs(type(one), Sum)
            self.assert_formula(one, ("sum", "(A + S)", ("n",), ("n",), "1/2", (A, S), ("n",), 2, 2, (A, S)))
        for one in (Difference(S, A), Difference(other=A, formula=S), S - A):
            self.assertIs(type(one), Difference)
            self.assert_formula(one, ("difference", "(S - A)", ("n",), ("n",), "-3/2", (A, S), ("n",), 2, 2, (S, A)))

    def test_scaled(self):
        for one in (Scaled(3, A), Scaled(formula=A, number=3), A * 3, A * Ratio(3), Scaled(Ratio(6, 2), A)):
            self.assertIs(type(one), Scaled)
            self.assert_formula(one, ("scaled", "(3 * A)", ("n",), ("n",), "3", (A,), ("n",), 1, 2, (A,)))
            self.assert_alike(one.number, Ratio(3))
        self.assert_formula(-X, ("scaled", "(-1 * X)", ("n",), ("p",), "0", (X,), ("n", "p"), 1, 2, (X,)))
        self.assert_alike((-X).number, Ratio(-1))
        self.assert_formula(A * Ratio(-2, 4), ("scaled", "(-1/2 * A)", ("n",), ("n",), "-1/2", (A,), ("n",), 1, 2, (A,)))
        self.assert_formula(A * 0, ("scaled", "(0 * A)", ("n",), ("n",), "0", (A,), ("n",), 1, 2, (A,)))

    def test_product(self):
        for one in (Product(X, Y), Product(other=Y, formula=X), X * Y):
            self.assertIs(type(one), Product)
            self.assert_formula(one, ("product", "(X * Y)", ("n",), ("n",), "0", (X, Y), ("n", "p"), 2, 2, (X, Y)))
        self.assert_formula(S * A, ("product", "(S * A)", ("n",), ("n",), "-1/2", (A, S), ("n",), 2, 2, (S, A)))

    def test_transposed_inverse_and_power(self):
        for one in (Transposed(X), Transposed(formula=X), X.transposed):
            self.assertIs(type(one), Transposed)
            self.assert_formula(one, ("transposed", "X'", ("p",), ("n",), "0", (X,), ("n", "p"), 1, 2, (X,)))
        for one in (Inverse(S), Inverse(formula=S), S.inverse()):
            self.assertIs(type(one), Inverse)
            self.assert_formula(one, ("inverse", "inv(S)", ("n",), ("n",), "-2", (S,), ("n",), 1, 2, (S,)))
        for one in (Power(S, 3), Power(exponent=3, formula=S), S ** 3):
            self.assertIs(type(one), Power)
            self.assert_formula(one, ("power", "(S ** 3)", ("n",), ("n",), "-1/8", (S,), ("n",), 3, 2, (S,)))
            self.assert_alike(one.exponent, 3)
        self.assert_formula(B ** 1, ("power", "(B ** 1)", ("n",), ("n",), "0", (B,), ("n",), 1, 2, (B,)))
        self.assertEqual((A ** 9).weight, 9)

    def test_blocks(self):
        table = ((A, X), (Y, K))
        for one in (Blocks(table), Blocks(table=table)):
            self.assert_formula(one, (
                "blocks", "blocks(A, X; Y, K)", ("n", "p"), ("n", "p"), "1 0; 0 0", (A, K, X, Y), ("n", "p"), 4, 2, (A, X, Y, K),
            ))
            self.assert_alike(one.table, table)
        one = Blocks(((A,),))
        self.assert_formula(one, ("blocks", "blocks(A)", ("n",), ("n",), "1", (A,), ("n",), 1, 2, (A,)))
        self.assert_alike(one.table, ((A,),))
        inner = Blocks(((A, X),))
        one = Blocks(((inner, S * 2), (Zero("p", ("n", "p")), Y)))
        self.assert_formula(one, (
            "blocks", "blocks(blocks(A, X), (2 * S); zero(p; n, p), Y)", ("n", "p"), ("n", "p", "n"), "1 0 -1; 0 0 0",
            (A, S, X, Y), ("n", "p"), 5, 3, (inner, S * 2, Zero("p", ("n", "p")), Y),
        ))

    def test_corner(self):
        whole = Blocks(((A, X, S),))
        for one in (Corner(whole, 0, 2), Corner(column=2, row=0, formula=whole), whole[0, 2], whole[(0, 2)]):
            self.assertIs(type(one), Corner)
            self.assert_formula(one, (
                "corner", "blocks(A, X, S)[0, 2]", ("n",), ("n",), "-1/2", (A, S, X), ("n", "p"), 3, 3, (whole,),
            ))
            self.assert_alike((one.row, one.column), (0, 2))
        self.assert_formula(A[0, 0], ("corner", "A[0, 0]", ("n",), ("n",), "1", (A,), ("n",), 1, 2, (A,)))
        self.assertEqual(str(Eye(("n", "p"))[1, 0].middle), "0")

    def test_a_letter_stands_once_among_the_letters(self):
        other = Letter("A", "n", "n", about=Ratio(2, 2))
        one = (B * other + A * B) ** 2
        self.assert_alike(one.letters, (A, B))
        self.assertEqual((one.weight, one.levels), (8, 4))

    def test_names_are_ordered_as_strings(self):
        some = [Letter(name, "n", "n") for name in ("B", "A10", "A2", "Aa", "A", "Z9", "Zz")]
        total = some[0]
        for letter in some[1:]:
            total = total + letter
        self.assertEqual([letter.name for letter in total.letters], ["A", "A10", "A2", "Aa", "B", "Z9", "Zz"])
        self.assertEqual(Eye(("p", "ab", "aa", "b", "p")).sizes, ("aa", "ab", "b", "p"))


def text_of(one):
    """The text of a formula, from those of its parts."""
    parts = [text_of(part) for part in one.parts]
    if one.kind == "letter":
        return one.name
    if one.kind == "eye":
        return "eye(" + ", ".join(one.rows) + ")"
    if one.kind == "zero":
        return "zero(" + ", ".join(one.rows) + "; " + ", ".join(one.columns) + ")"
    if one.kind in ("sum", "difference", "product"):
        sign = {"sum": "+", "difference": "-", "product": "*"}[one.kind]
        return f"({parts[0]} {sign} {parts[1]})"
    if one.kind == "scaled":
        return f"({reference.fraction(one.number)} * {parts[0]})"
    if one.kind == "transposed":
        return parts[0] + "'"
    if one.kind == "inverse":
        return f"inv({parts[0]})"
    if one.kind == "power":
        return f"({parts[0]} ** {one.exponent})"
    if one.kind == "blocks":
        return "blocks(" + "; ".join(", ".join(line) for line in reference.tabled(one, parts)) + ")"
    return f"{parts[0]}[{one.row}, {one.column}]"


class DrawnTest(CheckedCase):
    def test_properties_of_drawn_formulas(self):
        ones = {"n": 1, "p": 1}
        for one in drawn(250, 5, seed=11):
            self.assertEqual(str(one), text_of(one))
            self.assertEqual(one.levels, 1 + max([part.levels for part in one.parts], default=0))
            weight = sum(part.weight for part in one.parts) * (one.exponent if one.kind == "power" else 1)
            self.assertEqual(one.weight, weight if one.parts else 1)
            names = {letter.name: letter for part in one.parts for letter in part.letters}
            expected = tuple(names[name] for name in sorted(names)) if one.kind != "letter" else (one,)
            self.assert_alike(one.letters, expected)
            sizes = {name for part in one.parts for name in part.sizes} if one.parts else set(one.rows + one.columns)
            self.assertEqual(one.sizes, tuple(sorted(sizes)))
            abouts = {letter.name: reference.table_of(letter.middle) for letter in one.letters}
            self.assertEqual(reference.table_of(one.middle), reference.value(one, ones, abouts))
            self.assertEqual((one.middle.rows, one.middle.columns), (len(one.rows), len(one.columns)))

    def test_nothing_changes(self):
        for one in drawn(40, 4, seed=12):
            before = (str(one), one.letters, one.parts, one.middle, one.sizes)
            for make in (lambda: one + one, lambda: one.transposed, lambda: -one, lambda: one * 2, lambda: one[0, 0]):
                try:
                    make()
                except TooLarge:
                    pass
            self.assertEqual((str(one), one.letters, one.parts, one.middle, one.sizes), before)


class EqualityTest(CheckedCase):
    def test_letters(self):
        self.assertTrue(A == Letter("A", "n", "n", about=Ratio(3, 3)))
        self.assertFalse(A != Letter("A", "n", "n", about=1))
        for other in (
            Letter("Aa", "n", "n", about=1), Letter("A", "p", "p", about=1), Letter("A", "n", "n"), Letter("A", "n", "n", about=2),
            Letter("A", "n", "n", about=1, symmetry="symmetric"), Letter("A", "n", "p"), Letter("A", "p", "n"),
        ):
            self.assertFalse(A == other)
            self.assertTrue(A != other)
        self.assertFalse(Letter("A", "n", "p") == Letter("A", "p", "n"))
        self.assertFalse(B == Letter("B", "n", "n", symmetry="skew"))

    def test_formulas_of_one_kind(self):
        self.assertTrue(A + B == Sum(Letter("A", "n", "n", about=1), B))
        self.assertFalse(A + B == B + A)
        self.assertFalse(A + B == Letter("A", "n", "n") + B)
        self.assertFalse((A * B) * S == A * (B * S))
        self.assertTrue(A * 2 == A * Ratio(4, 2))
        self.assertFalse(A * 2 == A * 3)
        self.assertFalse(A ** 2 == A ** 3)
        self.assertFalse(A ** 2 == A * A)
        self.assertTrue(Eye("n") == Eye(("n",)))
        self.assertFalse(Eye("n") == Eye("p"))
        self.assertFalse(Zero("n", "p") == Zero("p", "n"))
        self.assertTrue(Blocks(((A, X),)) == Blocks(((A, X),)))
        self.assertFalse(Blocks(((A, X),)) == Blocks(((A,),)))
        whole = Blocks(((A, B), (B, A)))
        self.assertFalse(whole[0, 1] == whole[1, 0])
        self.assertTrue(whole[0, 1] == whole[0, 1])

    def test_no_other_value_is_equal(self):
        for one in (A, A + B, A.transposed, Eye("n"), Blocks(((A,),)), A[0, 0], A ** 1, A * 1):
            for other in NO_INTEGERS + (1, Ratio(1), str(one), one.middle, repr(one), (one,)):
                self.assertIs(one == other, False)
                self.assertIs(one != other, True)
            self.assertIs(one == Agreeing(), False)
            self.assertIs(one == Stubborn(), False)
        some = (A, A + A, A - A, A * 1, A * A, A.transposed, A.inverse(), A ** 1, Blocks(((A,),)), A[0, 0], Eye("n"), Zero("n", "n"))
        for i, one in enumerate(some):
            for j, other in enumerate(some):
                self.assertIs(one == other, i == j)
                self.assertIs(one != other, i != j)


if __name__ == "__main__":
    unittest.main()
