import unittest
from itertools import islice

import reference
from checks import CheckedCase
from drawing import drawn
from matrixforms import readers
from matrixforms.errors import InvalidIndex, InvalidWord, NotAFormula, TooLarge
from matrixforms.formulas import Blocks, Eye, Letter, Zero
from matrixforms.forms import coefficient, form
from matrixforms.machines import difference_machine, plain_machine, product_machine, sum_machine
from matrixforms.matrices import Matrix
from matrixforms.ratios import Ratio
from matrixforms.readers import Reader, plain_reader
from samples import NO_INTEGERS

A = Letter("A", "n", "n", about=2)
B = Letter("B", "n", "n", about=-1)
K = Letter("K", "n", "n", symmetry="skew")
S = Letter("S", "n", "n", symmetry="symmetric", about=3)
X = Letter("X", "n", "p")
# No symbols of any reader, as 1 and 0 are no truth values.
NO_SYMBOLS = NO_INTEGERS + (
    ("A", 1), ("A", 0), ("A", None), ("A",), ("A", False, False), ["A", False], ("a", False), (("A", False),), "A", A, ("A", "False"), (A, False), 0,
)
NO_WORDS = NO_INTEGERS + (
    "A", 1, A, ("A", False), (("A", 0),), (("A", 1),), (("A", False), ("A", 1)), [("A", False)], (["A", False],), (("A",),), (("A", False, True),),
    ((A, False),), (("A", None),), (("A", False), None), ((), ()), ("A", "B"), ((1, True),), ((b"A", True),),
)


class ReaderCase(CheckedCase):
    def assert_row(self, found, expected):
        self.assertIs(type(found), tuple)
        self.assertTrue(all(type(number) is Ratio for number in found))
        self.assertEqual([reference.fraction(number) for number in found], expected)

    def assert_reader(self, reader, expected, symbols):
        """The reader has all these numbers, and 0 for all other symbols."""
        self.assertIs(type(reader), Reader)
        self.assert_alike(reader.rows, expected.rows)
        self.assert_alike(reader.columns, expected.columns)
        self.assertEqual(reference.table_of(reader.middle), expected.middle)
        self.assert_alike(reader.names, tuple(expected.names))
        self.assertEqual(len(reader), len(expected.names))
        self.assertEqual(bool(reader), len(expected.names) > 0)
        used = [y for y in symbols if not (reference.is_zero(expected.moves[y]) and reference.is_zero(expected.ends[y]))]
        self.assert_alike(reader.symbols, tuple(used))
        for index in range(len(expected.rows)):
            self.assert_row(reader.start_row(index), expected.starts[index])
        for state in range(len(expected.names)):
            for y in symbols:
                self.assert_row(reader.move_row(state, y), expected.moves[y][state])
                self.assert_row(reader.end_row(state, y), expected.ends[y][state])


class PlainTest(ReaderCase):
    def test_interface(self):
        self.assert_interface(readers, {"plain_reader": (), "Reader": (
            "rows", "columns", "middle", "names", "symbols", "__len__", "start_row", "move_row", "end_row", "coefficient",
        )})

    def assert_plain(self, one):
        letters = reference.letters_of([one])
        self.assert_reader(plain_reader(one), reference.plain(one, letters), reference.symbols(letters))

    def test_each_kind(self):
        whole = Blocks(((A, X, B * 2), (X.transposed, Zero("p", "p"), X.transposed * K)))
        for one in (
            A, X, S, K, Eye("n"), Eye(("n", "p")), Zero("n", ("p", "n")), A + B, A - B * 2, A * Ratio(-2, 3), A * 0, A * B, X * X.transposed,
            A * B * S * K, A.inverse(), (A * B + K).inverse(), A.transposed, S.transposed, K.transposed, (A * K).transposed, (A * K * S * X).transposed,
            A ** 1, A ** 4, (A + K) ** 3, whole, whole.transposed, whole[0, 1], whole[1, 2], Blocks(((A, B), (B, A + B))).inverse(),
            Blocks(((A, B), (B, A + B))).inverse().transposed, A.transposed.transposed, (A.inverse() * B.transposed).inverse(), A - A,
        ):
            self.assert_plain(one)
            self.assert_plain(one * one.transposed)

    def test_numbers_worked_out_by_hand(self):
        product = plain_reader(A * B)
        self.assertEqual(product.names, ("n", "n"))
        self.assert_row(product.start_row(0), [1, 2])
        self.assert_row(product.move_row(0, ("A", False)), [0, 1])
        self.assert_row(product.move_row(0, ("B", False)), [0, 0])
        self.assert_row(product.end_row(0, ("A", False)), [-1])
        self.assert_row(product.end_row(1, ("B", False)), [1])
        self.assertEqual(str(product.middle), "-2")
        inverse = plain_reader(A.inverse())
        half = reference.Fraction(1, 2)
        self.assert_row(inverse.start_row(0), [-half])
        self.assert_row(inverse.move_row(0, ("A", False)), [-half])
        self.assert_row(inverse.end_row(0, ("A", False)), [half])
        turned = plain_reader(X.transposed)
        self.assertEqual((turned.names, turned.symbols), (("p", "n"), (("X", True),)))
        self.assert_row(turned.start_row(0), [1, 0])
        self.assert_row(turned.move_row(0, ("X", True)), [0, 1])
        self.assert_row(turned.end_row(0, ("X", True)), [1])
        self.assert_row(turned.end_row(1, ("X", True)), [0])
        skew = plain_reader(K.transposed)
        self.assertEqual(skew.symbols, (("K", False),))
        self.assert_row(skew.move_row(0, ("K", False)), [0, -1])
        self.assert_row(skew.end_row(0, ("K", False)), [-1])
        self.assertEqual(plain_reader(S.transposed).symbols, (("S", False),))

    def test_symbols_whose_numbers_cancel(self):
        self.assertEqual(plain_reader(A * Zero("n", "n")).symbols, ())
        self.assertEqual(plain_reader(Zero("n", "n") * A).symbols, (("A", False),))
        self.assertEqual(plain_reader(A - A).symbols, (("A", False),))
        self.assertEqual(len(plain_reader(A * 0)), 1)

    def test_drawn_formulas(self):
        for one in drawn(250, 5, seed=51, most=14):
            self.assert_plain(one)

    def test_sums_and_differences_beyond_the_limits(self):
        for one, other in ((A * B, K + S), (A.inverse(), B), (Blocks(((A, X),)), Blocks(((B, X),))), (A, A), (Eye("n"), A)):
            for made, machine in ((one + other, sum_machine), (one - other, difference_machine)):
                letters = reference.letters_of([made])
                found = Reader(machine(plain_machine(one), plain_machine(other)))
                self.assert_reader(found, reference.plain(made, letters), reference.symbols(letters))
        heavy = ((A ** 9) ** 9) * Ratio(1, 3)
        for _ in range(3):
            heavy = heavy + heavy
        self.assert_error(TooLarge, (1000,), lambda: heavy - heavy)
        found = Reader(difference_machine(plain_machine(heavy), plain_machine(heavy)))
        one = plain_reader(heavy)
        self.assertEqual((len(found), len(one)), (1296, 648))
        self.assertEqual(found.start_row(0), one.start_row(0) + tuple(-number for number in one.start_row(0)))
        self.assertEqual(str(found.middle), "0")
        for state in (0, 80, 81, 647):
            self.assertEqual(found.move_row(state, ("A", False)), one.move_row(state, ("A", False)) + (Ratio(0),) * 648)
            self.assertEqual(found.move_row(648 + state, ("A", False)), (Ratio(0),) * 648 + one.move_row(state, ("A", False)))
            self.assertEqual(found.end_row(648 + state, ("A", False)), one.end_row(state, ("A", False)))

    def test_products_beyond_the_limits(self):
        one, other = A * B + K, S.inverse() * A
        letters = reference.letters_of([one, other])
        found = Reader(product_machine(plain_machine(one), plain_machine(other)))
        self.assert_reader(found, reference.plain(one * other, letters), reference.symbols(letters))

    def test_many_levels(self):
        one = X
        for _ in range(59):
            one = one.transposed
        found = plain_reader(one)
        self.assertEqual(len(found), 60)
        self.assertEqual(str(found.coefficient((("X", True),))), "1")
        self.assertEqual(found.names, ("p", "n") * 30)

    def test_no_formulas(self):
        for given in NO_INTEGERS + (1, "A", plain_reader(A)):
            self.assert_given(NotAFormula, given, plain_reader, given)
            self.assert_given(NotAFormula, given, coefficient, given, ())
            self.assert_given(NotAFormula, given, coefficient, given, 7)

    def test_equal_calls(self):
        one, other = plain_reader(formula=A * B), plain_reader(A * B)
        self.assertFalse(one == other)
        self.assertTrue(one != other)
        self.assertTrue(one == one)
        self.assertEqual(one.coefficient((("A", False),)), other.coefficient((("A", False),)))
        for other in NO_INTEGERS + (0, form(A * B)):
            self.assertFalse(one == other)


class AskingTest(ReaderCase):
    def setUp(self):
        self.reader = plain_reader(Blocks(((A, B, X), (B, A, X))) * Zero(("n", "n", "p"), "n") + Blocks(((A,), (B * K,))))

    def test_indexes(self):
        one = self.reader
        self.assertEqual(len(one.start_row(1)), len(one))
        self.assertEqual(one.start_row(index=1), one.start_row(1))
        self.assertEqual(one.move_row(symbol=("B", False), state=8), one.move_row(8, ("B", False)))
        self.assertEqual(one.end_row(symbol=("A", False), state=6), one.end_row(6, ("A", False)))
        for given in NO_INTEGERS + (2, -1, 10 ** 30, Ratio(0)):
            self.assert_given(InvalidIndex, given, one.start_row, given)
        for given in NO_INTEGERS + (len(one), -1, 10 ** 30, Ratio(0)):
            self.assert_given(InvalidIndex, given, one.move_row, given, ("A", False))
            self.assert_given(InvalidIndex, given, one.end_row, given, ("A", False))
            self.assert_given(InvalidIndex, given, one.move_row, given, None)
        empty = plain_reader(Eye("n"))
        self.assertEqual(empty.start_row(0), ())
        self.assertFalse(empty)
        self.assert_given(InvalidIndex, 0, empty.move_row, 0, ("A", False))

    def test_symbols_that_are_none(self):
        one = plain_reader(A * B * X)
        for given in NO_SYMBOLS + (("A", True), ("X", True), ("Z", False)):
            for state in range(len(one)):
                self.assert_row(one.move_row(state, given), [0] * len(one))
                self.assert_row(one.end_row(state, given), [0])

    def test_words(self):
        one = plain_reader((A + K).inverse() * X)
        self.assert_alike(one.coefficient(()), one.middle)
        self.assertEqual(str(one.coefficient((("X", False),))), "1/2")
        self.assertEqual(str(one.coefficient((("A", False), ("X", False)))), "-1/4")
        self.assertEqual(str(one.coefficient(word=(("A", False), ("K", False), ("X", False)))), "1/8")
        for word in (
            (("X", True),), (("Z", False),), (("X", False), ("A", False)), (("X", False), ("X", False)), (("A", True), ("X", False)), (("", True),),
            (("K", True), ("X", False)), (("A", False),) * 5, (("X", False), ("Z", True)), (("any string", False),),
        ):
            self.assertEqual(one.coefficient(word), Matrix.zero(1, 1))
        whole = plain_reader(Blocks(((A, X),)))
        self.assertEqual(str(whole.coefficient((("X", False),))), "0 1")
        self.assertEqual(str(whole.coefficient((("X", True),))), "0 0")

    def test_no_words(self):
        one = plain_reader(A * B)
        for given in NO_WORDS:
            if not (isinstance(given, tuple) and not given):
                self.assert_given(InvalidWord, given, one.coefficient, given)
                self.assert_given(InvalidWord, given, coefficient, A, given)

    def test_coefficients(self):
        for one in drawn(150, 5, seed=52, most=12):
            letters, known = reference.letters_of([one]), {}
            plain, formed = plain_reader(one), form(one).reader
            for word in islice(reference.words(letters, 3), 120):
                expected = reference.coefficient(one, word, letters, known)
                self.assertEqual(reference.table_of(plain.coefficient(word)), expected)
                self.assertEqual(reference.table_of(formed.coefficient(word)), expected)
            for word in islice(reference.words(letters, 2), 5):
                self.assertEqual(coefficient(one, word), plain.coefficient(word))

    def test_coefficients_are_what_the_value_is_made_of(self):
        # The value at the deviation t * M is the sum of the coefficients times the powers of t.
        one = (A.inverse() * B + A) ** 2 - A.transposed
        worth = reference.Fraction(1, 1000)
        total = reference.Fraction(0)
        known, letters = {}, reference.letters_of([one])
        for word in reference.words(letters, 5):
            total += reference.coefficient(one, word, letters, known)[0][0] * worth ** len(word)
        exact = reference.value(one, {"n": 1}, {"A": [[2 + worth]], "B": [[-1 + worth]]})[0][0]
        self.assertLess(abs(total - exact), worth ** 5)
        self.assertNotEqual(total, exact)


if __name__ == "__main__":
    unittest.main()
