import unittest
from fractions import Fraction

import reference
from checks import CheckedCase
from drawing import Drawing
from matrixforms.errors import (
    Clash, InvalidAbout, InvalidExponent, InvalidIndex, InvalidName, InvalidNumber, InvalidSide, InvalidSymmetry, InvalidTable,
    Mismatch, NotAFormula, TooLarge, Unanchored,
)
from matrixforms.formulas import (
    Blocks, Corner, Difference, Eye, Inverse, Letter, Power, Product, Scaled, Sum, Transposed, Zero,
)
from matrixforms.matrices import Matrix
from matrixforms.ratios import Ratio
from samples import NO_INTEGERS

NINES = 10 ** 40 - 1
A = Letter("A", "n", "n", about=1)
B = Letter("B", "n", "n")
X = Letter("X", "n", "p")
NO_FORMULAS = NO_INTEGERS + (0, 1, Ratio(1), "A", ("A",), Matrix.eye(1), (A,), [A], Letter)
WRONG_NAMES = (
    "", "a", "aB", "AB", "ABC", "A_", "A-", "A ", " A", "A'", "1A", "1", "Abcdefg", "A123456", "A/2", "\u00c4", "A\u00e4", "A\u0661", "A\n",
)
WRONG_SIZES = ("", "N", "n1", "1", "nP", "n ", " n", "n,p", "abcdefg", "n_", "n'", "\u00e4", "n\n")


def without_names(values):
    """These values without the strings that are names of letters or of sizes."""
    return [given for given in values if not (isinstance(given, str) and given in ("x", "True"))]


class LetterTest(CheckedCase):
    def test_names(self):
        for given in WRONG_NAMES:
            self.assert_given(InvalidName, given, Letter, given, "n", "n")
        for given in without_names(NO_INTEGERS + (1, A)):
            self.assert_given(InvalidName, given, Letter, given, "n", "n")
            self.assert_given(InvalidName, given, Letter, name=given, rows=1, columns=2, symmetry=3, about="x")

    def test_sides(self):
        for given in WRONG_SIZES + (("n",), ("n", "p"), ["n"], 1, A):
            self.assert_given(InvalidSide, given, Letter, "A", given, "n")
            self.assert_given(InvalidSide, given, Letter, "A", "n", given)
            self.assert_given(InvalidSide, given, Letter, "A", given, 7, symmetry=8, about=None)
            self.assert_given(InvalidSide, given, Letter, "A", columns=given, rows="n", symmetry=8, about=None)
        for given in without_names(NO_INTEGERS):
            self.assert_given(InvalidSide, given, Letter, "A", given, "n")
            self.assert_given(InvalidSide, given, Letter, "A", "n", given)

    def test_symmetries(self):
        for given in NO_INTEGERS + (0, 1, "Plain", "skew ", "symmetrical", "plain\n", ("plain",), ["skew"]):
            self.assert_given(InvalidSymmetry, given, Letter, "A", "n", "n", symmetry=given)
            self.assert_given(InvalidSymmetry, given, Letter, "A", "n", "p", symmetry=given, about="x")
        for given in ("symmetric", "skew"):
            self.assert_given(InvalidSymmetry, given, Letter, "A", "n", "p", symmetry=given)
            self.assert_given(InvalidSymmetry, given, Letter, "A", "n", "p", symmetry=given, about=1)

    def test_abouts(self):
        for given in NO_INTEGERS + (Fraction(1, 2), "1", (1,), (0, 1), Matrix.eye(1)):
            for symmetry in ("plain", "symmetric", "skew"):
                self.assert_given(InvalidAbout, given, Letter, "A", "n", "n", symmetry=symmetry, about=given)
            self.assert_given(InvalidAbout, given, Letter, "A", "n", "p", about=given)
        for given in (1, -1, Ratio(1, 2), NINES):
            self.assert_given(InvalidAbout, given, Letter, "A", "n", "p", about=given)
            self.assert_given(InvalidAbout, given, Letter, "A", "n", "n", about=given, symmetry="skew")

    def test_more_by_name_only(self):
        with self.assertRaises(TypeError):
            Letter("A", "n", "n", "plain")


class ParametersTest(CheckedCase):
    def test_sides(self):
        sixteen = tuple("abcdefghijklmnop")
        self.assertEqual(Eye(sixteen).rows, sixteen)
        self.assertEqual(Zero(sixteen, "n").rows, sixteen)
        wrong = (), sixteen + ("q",), ("n",) * 17, ["n"], ["n", "p"], ("n", "P"), ("n", 1), ("n", ("p",)), (("n",),), 1, True, None, {"n": 1}, A
        for given in wrong + WRONG_SIZES + (("",), ("n", "")):
            self.assert_given(InvalidSide, given, Eye, given)
            self.assert_given(InvalidSide, given, Zero, given, 5)
            self.assert_given(InvalidSide, given, Zero, "n", given)
            self.assert_given(InvalidSide, given, Zero, columns=given, rows=("n", "p"))
        for given in without_names(NO_INTEGERS):
            self.assert_given(InvalidSide, given, Eye, given)
            for side in (("n", given), (given,), (given, "n", "p")):
                self.assert_given(InvalidSide, side, Eye, side)

    def test_no_formulas(self):
        for given in NO_FORMULAS:
            for make in (Sum, Difference, Product):
                self.assert_given(NotAFormula, given, make, given, A)
                self.assert_given(NotAFormula, given, make, A, given)
                self.assert_given(NotAFormula, given, make, given, 17)
                self.assert_given(NotAFormula, given, make, other=X, formula=given)
            for make in (Transposed, Inverse):
                self.assert_given(NotAFormula, given, make, given)
                self.assert_given(NotAFormula, given, make, formula=given)
            self.assert_given(NotAFormula, given, Scaled, 2, given)
            self.assert_given(NotAFormula, given, Power, given, 2)
            self.assert_given(NotAFormula, given, Power, given, 0)
            self.assert_given(NotAFormula, given, Corner, given, 0, 0)
            self.assert_given(NotAFormula, given, Corner, given, -1, "x")
            self.assert_given(NotAFormula, given, lambda: A + given)
            self.assert_given(NotAFormula, given, lambda: A - given)

    def test_numbers(self):
        for given in NO_INTEGERS + (A, Matrix.eye(1)):
            self.assert_given(InvalidNumber, given, Scaled, given, A)
            self.assert_given(InvalidNumber, given, Scaled, given, "A")
            self.assert_given(InvalidNumber, given, Scaled, formula=None, number=given)

    def test_exponents(self):
        for given in NO_INTEGERS + (0, -1, 10, NINES, Ratio(2), A):
            self.assert_given(InvalidExponent, given, Power, A, given)
            self.assert_given(InvalidExponent, given, lambda: A ** given)
            self.assert_given(InvalidExponent, given, Power, X, given)
        for exponent in range(1, 10):
            self.assertEqual((A ** exponent).exponent, exponent)

    def test_tables(self):
        for given in NO_INTEGERS + (
            (), ((),), ((), ()), A, (A,), [[A]], ([A],), [(A,)], ((A,), ()), ((A, A), (A,)), ((A,), (A, A)), ((A,), [A]), ((A, 1),),
            (((A,),),), ((A,), (None,)), ((A, "A"),), Matrix.eye(2), Matrix.eye(2).entries,
        ):
            self.assert_given(InvalidTable, given, Blocks, given)
            self.assert_given(InvalidTable, given, Blocks, table=given)

    def test_indexes(self):
        whole = Blocks(((A, X, B),))
        for given in NO_INTEGERS + (1, -1, NINES, Ratio(0), A):
            self.assert_given(InvalidIndex, given, Corner, whole, given, 0)
            self.assert_given(InvalidIndex, given, Corner, whole, given, 3)
            self.assert_given(InvalidIndex, given, lambda: whole[given, 9])
        for given in NO_INTEGERS + (3, -1, NINES, Ratio(0), A):
            self.assert_given(InvalidIndex, given, Corner, whole, 0, given)
            self.assert_given(InvalidIndex, given, Corner, column=given, row=0, formula=whole)
            self.assert_given(InvalidIndex, given, lambda: whole[0, given])
        for given in (0, "00", (), (0,), (0, 0, 0), [0, 0], None, slice(0, 1), A, {0: 0}):
            self.assert_given(InvalidIndex, given, lambda: whole[given])


class MeetingTest(CheckedCase):
    def test_clash(self):
        other = Letter("A", "n", "n", about=2)
        for make in (Sum, Difference, Product):
            self.assert_error(Clash, ("A",), make, A, other)
            self.assert_error(Clash, ("A",), make, A * B, B + other)
        self.assert_error(Clash, ("A",), lambda: A + other)
        for other in (
            Letter("A", "n", "n"), Letter("A", "p", "p", about=1), Letter("A", "n", "n", about=1, symmetry="symmetric"),
            Letter("A", "n", "p"), Letter("A", "p", "n"), Letter("A", "n", "n", about=Ratio(1, 2)),
        ):
            self.assert_error(Clash, ("A",), Sum, A, other)
            self.assert_error(Clash, ("A",), Product, other, A)
            self.assert_error(Clash, ("A",), Blocks, ((A, other),))
            self.assert_error(Clash, ("A",), Blocks, ((A,), (other,)))

    def test_clash_with_the_least_name(self):
        ones = [Letter(name, "n", "n") for name in ("C", "Aa", "B", "A9")]
        others = [Letter(name, "n", "n", about=1) for name in ("B", "Aa", "C")]
        one = ones[0] * ones[1] * ones[2] * ones[3]
        other = others[0] + others[1] + others[2]
        for make in (Sum, Difference, Product):
            self.assert_error(Clash, ("Aa",), make, one, other)
            self.assert_error(Clash, ("B",), make, ones[2] * ones[0], others[2] + others[0])
        self.assert_error(Clash, ("Aa",), Blocks, ((one, other),))
        self.assert_error(Clash, ("B",), Blocks, ((ones[0], ones[2]), (others[2], others[0])))

    def test_clash_ahead_of_mismatch(self):
        other = Letter("A", "n", "p")
        self.assert_error(Clash, ("A",), Sum, A, other)
        self.assert_error(Clash, ("A",), Product, other, A)
        self.assert_error(Clash, ("A",), Blocks, ((A, X), (other, B)))

    def test_mismatch_of_sums(self):
        for make in (Sum, Difference):
            self.assert_error(Mismatch, ((("n",), ("n",)), (("n",), ("p",))), make, A, X)
            self.assert_error(Mismatch, ((("n",), ("p",)), (("p",), ("n",))), make, X, X.transposed)
            self.assert_error(
                Mismatch, ((("n", "p"), ("n",)), (("p", "n"), ("n",))), make, Zero(("n", "p"), "n"), Zero(("p", "n"), "n"),
            )
        self.assert_error(Mismatch, ((("n",), ("n",)), (("n", "n"), ("n", "n"))), lambda: A - Eye(("n", "n")))

    def test_mismatch_of_products(self):
        self.assert_error(Mismatch, (("p",), ("n",)), Product, X, A)
        self.assert_error(Mismatch, (("p",), ("n",)), lambda: X * X)
        self.assert_error(Mismatch, (("n", "p"), ("p", "n")), Product, Eye(("n", "p")), Eye(("p", "n")))

    def test_mismatch_of_inverse_and_power(self):
        for one, rows, columns in ((X, ("n",), ("p",)), (Zero(("n", "p"), ("p", "n")), ("n", "p"), ("p", "n"))):
            self.assert_error(Mismatch, (rows, columns), Inverse, one)
            self.assert_error(Mismatch, (rows, columns), one.inverse)
            self.assert_error(Mismatch, (rows, columns), Power, one, 2)
            self.assert_error(Mismatch, (rows, columns), Power, one, 1)

    def test_mismatch_of_blocks(self):
        def zero(rows, columns):
            return Zero(tuple(rows), tuple(columns))

        n, p, q = ("n",), ("p",), ("q",)
        for table, first, second in (
            (((zero("n", "n"), zero("p", "n")),), n, p),
            (((zero("n", "n"), zero("n", "p"), zero("q", "n")),), n, q),
            (((zero("n", "n"), zero("n", "p")), (zero("p", "n"), zero("q", "p"))), p, q),
            # The rows of all come first, then the columns.
            (((zero("n", "n"), zero("n", "p")), (zero("p", "q"), zero("q", "p"))), p, q),
            (((zero("n", "n"), zero("q", "p")), (zero("p", "n"), zero("n", "p"))), n, q),
            (((zero("n", "n"), zero("n", "p")), (zero("p", "n"), zero("p", "q"))), p, q),
            (((zero("n", "n"), zero("n", "p")), (zero("p", "q"), zero("p", "n"))), n, q),
            (((zero("n", "n"),), (zero("p", "p"),)), n, p),
            (((zero("n", "n"),), (zero("p", "n"),), (zero("p", "q"),)), n, q),
            (((zero("n", "np"),), (zero("p", "pn"),)), ("n", "p"), ("p", "n")),
            (((zero("np", "n"), zero("pn", "n")),), ("n", "p"), ("p", "n")),
        ):
            self.assert_error(Mismatch, (first, second), Blocks, table)


def doubled(one, times):
    for _ in range(times):
        one = one + one
    return one


def lifted(one, levels):
    """The formula with so many levels, of the same weight."""
    while one.levels < levels:
        one = one * 1
    return one


class LimitsTest(CheckedCase):
    def test_weight(self):
        five = doubled(B, 2) + B
        quarter = doubled((five ** 5) ** 5, 2)
        self.assertEqual(quarter.weight, 500)
        for make in (
            lambda: doubled((five ** 5) ** 5, 3), lambda: quarter * quarter, lambda: quarter - quarter, lambda: quarter ** 2,
            lambda: Blocks(((quarter, quarter),)), lambda: quarter + quarter * 2, lambda: (quarter + quarter).transposed,
            lambda: ((B ** 9) ** 9) ** 9 + doubled(Eye("n"), 8) + B ** 9 + Zero("n", "n") ** 6,
        ):
            self.assertEqual(make().weight, 1000)
        most = quarter + quarter
        for make in (
            lambda: most + B, lambda: B - most, lambda: most * B, lambda: most ** 2, lambda: Blocks(((most, B),)),
            lambda: quarter * (quarter + B), lambda: (quarter + B) ** 2, lambda: most + Zero("n", "n"), lambda: most * Eye("n"),
            lambda: ((five ** 9) ** 5) ** 5,
        ):
            self.assert_error(TooLarge, (1000,), make)

    def test_sides(self):
        eight = Zero(("n",) * 8, ("n",) * 8)
        self.assertEqual(len(Blocks(((eight,), (eight,))).rows), 16)
        self.assertEqual(len(Blocks(((eight, eight),)).columns), 16)
        nine = Zero(("n",) * 9, ("n",) * 9)
        self.assert_error(TooLarge, (16,), Blocks, ((nine,), (Zero(("n",) * 8, ("n",) * 9),)))
        self.assert_error(TooLarge, (16,), Blocks, ((nine, Zero(("n",) * 9, ("n",) * 8)),))
        self.assert_error(TooLarge, (16,), Blocks, ((B,) * 17,))
        self.assert_error(TooLarge, (16,), Blocks, ((B,),) * 17)
        self.assertEqual(Blocks(((B,) * 16,) * 16).weight, 256)

    def test_levels(self):
        most = lifted(A, 60)
        self.assertEqual(most.levels, 60)
        for make in (
            lambda: most + A, lambda: A + most, lambda: most - A, lambda: most * 2, lambda: -most, lambda: most * A, lambda: A * most,
            lambda: most.transposed, lambda: Transposed(most), lambda: most.inverse(), lambda: most ** 1, lambda: Blocks(((A, most),)),
            lambda: most[0, 0],
        ):
            self.assert_error(TooLarge, (60,), make)
        nearly = lifted(A, 59)
        for make in (
            lambda: nearly + A, lambda: A - nearly, lambda: nearly * 2, lambda: A * nearly, lambda: nearly.transposed,
            lambda: nearly.inverse(), lambda: nearly ** 2, lambda: Blocks(((A, nearly),)), lambda: nearly[0, 0],
        ):
            self.assertEqual(make().levels, 60)
        turned = A
        for _ in range(59):
            turned = turned.transposed
        self.assertEqual(str(turned), "A" + "'" * 59)
        self.assert_error(TooLarge, (60,), lambda: turned.transposed)

    def test_weight_ahead_of_side_ahead_of_levels(self):
        five = doubled(B, 2) + B
        heavy = doubled((five ** 5) ** 5, 2)
        high = lifted(B, 60)
        self.assert_error(TooLarge, (1000,), lambda: Blocks(((heavy, heavy, high) + (B,) * 14,)))
        self.assert_error(TooLarge, (16,), lambda: Blocks(((high,) + (B,) * 16,)))
        self.assert_error(TooLarge, (60,), lambda: Blocks(((high,) + (B,) * 15,)))
        self.assert_error(TooLarge, (1000,), lambda: lifted(heavy, 60) * (heavy + B))

    def test_limits_behind_mismatch_and_ahead_of_unanchored(self):
        high = lifted(B, 60)
        self.assert_error(TooLarge, (60,), Inverse, high)
        self.assert_error(Mismatch, (("n",), ("p",)), Inverse, lifted(X, 60))
        self.assert_error(Mismatch, ((("n",), ("n",)), (("n",), ("p",))), Sum, high, X)
        self.assert_error(Clash, ("B",), Sum, high, Letter("B", "n", "p"))
        self.assert_error(Mismatch, (("n",), ("p",)), Blocks, ((high, X.transposed) + (B,) * 16,))


class UnanchoredTest(CheckedCase):
    def test_unanchored(self):
        skew = Letter("K", "n", "n", symmetry="skew")
        for one in (
            B, skew, A - Eye("n"), X.transposed * X, Zero("n", "n"), A * 0, Blocks(((A, A), (A, A))), Blocks(((A, X), (X.transposed, Zero("p", "p")))),
            (A - Eye("n")) ** 3, Eye(("n", "p")) - Eye(("n", "p")), A * B,
        ):
            self.assert_error(Unanchored, (str(one),), Inverse, one)
            self.assert_error(Unanchored, (str(one),), one.inverse)

    def test_anchored(self):
        d = Letter("D", "p", "p", about=3)
        for one, middle in (
            (A, "1"), (A * Ratio(2, 3), "3/2"), (Eye("n") + B, "1"), (Blocks(((B, A), (A, B))), "0 1; 1 0"),
            (Blocks(((A, X), (X.transposed, d))), "1 0; 0 1/3"), (Eye("p") + X.transposed * X, "1"),
            (Blocks(((A, A), (A, A * 2))), "2 -1; -1 1"), ((A + A) ** 3, "1/8"), (A.inverse() * Ratio(1, 5), "5"),
        ):
            self.assertEqual(str(one.inverse().middle), middle)

    def test_drawn_formulas(self):
        drawing = Drawing(21)
        found = {True: 0, False: 0}
        while min(found.values()) < 60:
            side = drawing.side()
            try:
                one = drawing.formula(side, side, 4)
            except TooLarge:
                continue
            if one.weight > 900:
                continue
            try:
                expected = reference.inverse(reference.table_of(one.middle))
            except reference.NoInverse:
                expected = None
            found[expected is None] += 1
            if expected is None:
                self.assert_error(Unanchored, (str(one),), Inverse, one)
                if one.weight <= 500 and one.levels < 60:
                    self.assert_error(Unanchored, (f"({one} ** 2)",), Inverse, one ** 2)
            else:
                self.assertEqual(reference.table_of(one.inverse().middle), expected)


if __name__ == "__main__":
    unittest.main()
