import unittest
from fractions import Fraction
from random import Random

import reference
from checks import CheckedCase
from drawing import matrix
from matrixforms import matrices
from matrixforms.errors import InvalidEntries, InvalidIndex, InvalidSize, InvalidText, Mismatch, Singular
from matrixforms.formulas import Letter
from matrixforms.matrices import Matrix
from matrixforms.ratios import Ratio
from samples import NO_INTEGERS, Stubborn

NINES = 10 ** 40 - 1


def drawn_table(random, rows, columns):
    return [[Fraction(random.randint(-5, 5), random.choice((1, 1, 2, 3, 7))) for _ in range(columns)] for _ in range(rows)]


class MakingTest(CheckedCase):
    def test_interface(self):
        self.assert_interface(matrices, {"Matrix": (
            "__init__", "entries", "rows", "columns", "transposed", "__add__", "__sub__", "__mul__", "__neg__",
            "__getitem__", "inverse", "trace", "eye", "zero", "read", "__str__", "__repr__", "__eq__",
        )})
        for name in ("eye", "zero", "read"):
            self.assertIsInstance(vars(Matrix)[name], classmethod)

    def test_tables_of_all_shapes(self):
        for rows, columns in ((1, 1), (1, 5), (5, 1), (2, 3), (40, 1), (1, 40), (40, 40)):
            entries = tuple(tuple(3 * i - j for j in range(columns)) for i in range(rows))
            found = Matrix(entries)
            self.assertEqual((found.rows, found.columns), (rows, columns))
            self.assertIs(type(found.entries), tuple)
            for line, numbers in zip(found.entries, entries):
                self.assertIs(type(line), tuple)
                for number, expected in zip(line, numbers):
                    self.assertIs(type(number), Ratio)
                    self.assertEqual((number.top, number.bottom), (expected, 1))
            self.assertEqual(found, Matrix(found.entries))
            self.assertEqual(found, Matrix(entries=entries))

    def test_integers_beside_fractions(self):
        entries = ((1, Ratio(1, 2)), (Ratio(-4, 2), NINES))
        found = Matrix(entries)
        self.assertEqual(found.entries, ((Ratio(1), Ratio(1, 2)), (Ratio(-2), Ratio(NINES))))
        self.assertEqual(entries, ((1, Ratio(1, 2)), (Ratio(-2), NINES)))
        self.assertIs(type(entries[0][0]), int)

    def test_no_tables(self):
        wrong = [
            (), ((),), ((), ()), ((1,), ()), ((), (1,)), ((1, 2), (3,)), ((1,), (2, 3)), ((1,), (2,), (3, 4)),
            [[1]], ([1],), [(1,)], ((1,), [2]), (1,), (1, 2), ((1,), 2), (((1,),),), Ratio(1), 1, "1", ("1",), (("1",),),
            Matrix(((1,),)), (Matrix(((1,),)),), ((Matrix(((1,),)),),), (range(2),),
        ]
        for given in wrong:
            self.assert_given(InvalidEntries, given, Matrix, given)
        for given in NO_INTEGERS:
            self.assert_given(InvalidEntries, given, Matrix, given)
            self.assert_given(InvalidEntries, given, Matrix, entries=given)
            for entries in (((given,),), ((1, given),), ((1,), (given,)), ((given, 1), (2, 3)), ((1, 2, 3), given)):
                self.assert_given(InvalidEntries, entries, Matrix, entries)

    def test_eye_and_zero(self):
        for size in (1, 2, 3, 16):
            expected = reference.identity(size)
            self.assertEqual(reference.table_of(Matrix.eye(size)), expected)
            self.assertEqual(reference.table_of(Matrix.eye(size=size)), expected)
        for rows, columns in ((1, 1), (1, 3), (4, 2)):
            self.assertEqual(reference.table_of(Matrix.zero(rows, columns)), reference.zeros(rows, columns))
            self.assertEqual(Matrix.zero(columns=columns, rows=rows), Matrix.zero(rows, columns))
        for given in NO_INTEGERS + (0, -1, -NINES, Ratio(1), Ratio(2)):
            self.assert_given(InvalidSize, given, Matrix.eye, given)
            self.assert_given(InvalidSize, given, Matrix.zero, given, 1)
            self.assert_given(InvalidSize, given, Matrix.zero, 1, given)
            self.assert_given(InvalidSize, given, Matrix.zero, given, 0)
            self.assert_given(InvalidSize, given, Matrix.zero, columns=-1, rows=given)


class SumsTest(CheckedCase):
    def setUp(self):
        self.random = Random(5)

    def test_sums_and_products(self):
        for rows, inner, columns in ((1, 1, 1), (1, 3, 1), (3, 1, 3), (2, 3, 4), (5, 5, 5), (4, 1, 1), (20, 7, 20)):
            left, more = drawn_table(self.random, rows, inner), drawn_table(self.random, rows, inner)
            right = drawn_table(self.random, inner, columns)
            self.assertEqual(reference.table_of(matrix(left) + matrix(more)), reference.plus(left, more))
            self.assertEqual(reference.table_of(matrix(left) - matrix(more)), reference.plus(left, more, -1))
            self.assertEqual(reference.table_of(matrix(left) * matrix(right)), reference.times(left, right))
            self.assertEqual(reference.table_of(-matrix(left)), reference.scaled(-1, left))
            self.assertEqual(reference.table_of(matrix(left).transposed), reference.flipped(left))
            for number, worth in ((3, 3), (0, 0), (-1, -1), (Ratio(-2, 3), Fraction(-2, 3)), (NINES, NINES)):
                self.assertEqual(reference.table_of(matrix(left) * number), reference.scaled(worth, left))

    def test_nothing_changes(self):
        left, right = matrix(drawn_table(self.random, 3, 3)), matrix(drawn_table(self.random, 3, 3))
        before = (left.entries, right.entries, str(left), str(right))
        for found in (left + right, left - right, left * right, -left, left * 2, left.transposed):
            self.assertIs(type(found), Matrix)
        self.assertEqual((left.entries, right.entries, str(left), str(right)), before)

    def test_unlike_sizes(self):
        one, other = Matrix.zero(2, 3), Matrix.zero(3, 2)
        self.assert_error(Mismatch, ((2, 3), (3, 2)), lambda: one + other)
        self.assert_error(Mismatch, ((3, 2), (2, 3)), lambda: other - one)
        self.assert_error(Mismatch, ((2, 3), (2, 4)), lambda: one + Matrix.zero(2, 4))
        self.assert_error(Mismatch, ((2, 3), (1, 3)), lambda: one - Matrix.zero(1, 3))
        self.assert_error(Mismatch, (3, 2), lambda: one * one)
        self.assert_error(Mismatch, (2, 3), lambda: other * other)
        self.assert_error(Mismatch, (1, 2), lambda: Matrix.eye(1) * Matrix.eye(2))

    def test_inverses(self):
        found = 0
        for size in (1, 2, 3, 4, 6, 9) * 6:
            table = drawn_table(self.random, size, size)
            try:
                expected = reference.inverse(table)
            except reference.NoInverse:
                self.assert_error(Singular, (), matrix(table).inverse)
                continue
            found += 1
            one = matrix(table)
            inverse = one.inverse()
            self.assertEqual(reference.table_of(inverse), expected)
            self.assertEqual(one * inverse, Matrix.eye(size))
            self.assertEqual(inverse * one, Matrix.eye(size))
        self.assertGreater(found, 20)

    def test_inverse_of_forty_rows(self):
        one = matrix(drawn_table(self.random, 40, 40))
        self.assertEqual(one * one.inverse(), Matrix.eye(40))

    def test_rows_in_another_order(self):
        one = Matrix.read("0 0 2; 1 0 0; 0 1/3 0")
        self.assertEqual(str(one.inverse()), "0 1 0; 0 0 3; 1/2 0 0")

    def test_no_inverse(self):
        for text in ("0", "0 0; 0 0", "1 2; 2 4", "1 2; 0 0", "0 1; 0 2", "1 2 3; 4 5 6; 7 8 9", "1/2 1/3; 3 2", "0 1 0; 0 0 1; 0 0 0"):
            self.assert_error(Singular, (), Matrix.read(text).inverse)
        self.assert_error(Mismatch, (1, 2), Matrix.read("0 0").inverse)
        self.assert_error(Mismatch, (3, 2), Matrix.zero(3, 2).inverse)

    def test_trace(self):
        for size in (1, 2, 5):
            table = drawn_table(self.random, size, size)
            found = matrix(table).trace()
            self.assertIs(type(found), Ratio)
            self.assertEqual(reference.fraction(found), sum(table[k][k] for k in range(size)))
        self.assert_error(Mismatch, (1, 2), Matrix.zero(1, 2).trace)
        self.assert_error(Mismatch, (4, 3), Matrix.zero(4, 3).trace)


class EntriesTest(CheckedCase):
    def test_entries(self):
        one = Matrix(tuple(tuple(10 * i + j for j in range(3)) for i in range(2)))
        for i in range(2):
            for j in range(3):
                self.assert_alike(one[i, j], Ratio(10 * i + j))
                self.assertEqual(one[(i, j)], Ratio(10 * i + j))

    def test_no_entries(self):
        one = Matrix.zero(2, 3)
        for at in ((2, 0), (0, 3), (-1, 0), (0, -1), (NINES, 0), (0, NINES), (), (0,), (0, 0, 0), [0, 0], 0, 1, "00", ("0", 0),
                   (slice(0, 1), 0), slice(0, 1), (Ratio(0), 0), (0, Ratio(0))):
            self.assert_given(InvalidIndex, at, lambda: one[at])
        for given in NO_INTEGERS:
            for at in ((given, 0), (0, given), (given, given)):
                self.assert_given(InvalidIndex, at, lambda: one[at])
            if not (isinstance(given, tuple) and given == (1, 2)):
                self.assert_given(InvalidIndex, given, lambda: one[given])


class TextTest(CheckedCase):
    def test_texts(self):
        for entries, text in (
            (((0,),), "0"), (((-1,),), "-1"), (((Ratio(-1, 2), 3),), "-1/2 3"), (((1,), (2,)), "1; 2"),
            (((1, 0), (Ratio(2, 4), -3)), "1 0; 1/2 -3"), (((NINES, -NINES),), f"{NINES} -{NINES}"),
        ):
            one = Matrix(entries)
            self.assertEqual(str(one), text)
            self.assertEqual(repr(one), f"Matrix('{text}')")
            self.assertEqual(Matrix.read(text), one)
            self.assertEqual(Matrix.read(text=text), one)
            self.assertEqual(eval(repr(one), {"Matrix": Matrix.read}), one)

    def test_drawn_matrices_are_read_back(self):
        random = Random(8)
        for _ in range(60):
            one = matrix(drawn_table(random, random.randint(1, 4), random.randint(1, 4)))
            self.assertEqual(Matrix.read(str(one)), one)
            self.assertEqual(str(Matrix.read(str(one))), str(one))

    def test_texts_that_are_nearly_right(self):
        for text in (
            "", " ", ";", "; ", "1;", "1; ", "1 ", " 1", "1  2", "1;2", "1 ;2", "1 ; 2", "1;  2", "1; 2;", "1; 2; ", "; 1", "1, 2",
            "1 2; 3", "1; 2 3", "1 2; 3 4 5", "1\n2", "1 2;\n3 4", "1\t2", "01", "+1", "-0", "2/4", "1/1", "1/0", "1/-2", "0/1", "1.5",
            "1e3", "1_0", "- 1", "1 / 2", "x", "1 x", "A", "(1)", "[1]", "1; 2 ", "1 2 ; 3 4", "--1", "1-1", "1 2| 3 4",
        ):
            self.assert_given(InvalidText, text, Matrix.read, text)

    def test_no_strings(self):
        for given in NO_INTEGERS:
            if not isinstance(given, str):
                self.assert_given(InvalidText, given, Matrix.read, given)
        self.assert_given(InvalidText, 1, Matrix.read, 1)
        one = Matrix.eye(1)
        self.assert_given(InvalidText, one, Matrix.read, one)


class EqualityTest(CheckedCase):
    def test_equality(self):
        one = Matrix(((1, Ratio(1, 2)), (0, 3)))
        for other in (one, Matrix(((Ratio(2, 2), Ratio(2, 4)), (Ratio(0), 3))), Matrix.read("1 1/2; 0 3"), one.transposed.transposed):
            self.assertTrue(one == other)
            self.assertFalse(one != other)
        for other in (Matrix.read("1 1/2; 0 4"), Matrix.read("1 1/2"), Matrix.read("1; 1/2"), Matrix.read("1 1/2 0 3"), one.transposed):
            self.assertFalse(one == other)
            self.assertTrue(one != other)
        self.assertFalse(Matrix.zero(1, 2) == Matrix.zero(2, 1))

    def test_no_other_value_is_equal(self):
        one = Matrix(((1,),))
        for other in NO_INTEGERS + (1, Ratio(1), ((1,),), ((Ratio(1),),), one.entries, "1", Letter("A", "n", "n")):
            self.assertFalse(one == other)
            self.assertTrue(one != other)
        self.assertIs(one == Stubborn(), False)

    def test_always_true_as_a_condition(self):
        self.assertTrue(Matrix.zero(1, 1))
        self.assertTrue(Matrix.zero(3, 2))


if __name__ == "__main__":
    unittest.main()
