import unittest
from random import Random

import reference
from checks import CheckedCase
from drawing import MANY, NUMBERS, chain, drawn
from matrixforms import relations as module
from matrixforms.errors import Clash, InvalidSize, Mismatch, NotAFormula, TooLarge, TooRich
from matrixforms.formulas import Blocks, Eye, Letter, Zero
from matrixforms.forms import form
from matrixforms.ratios import Ratio
from matrixforms.relations import combination, relations
from matrixforms.sameness import same
from samples import NO_INTEGERS

A = Letter("A", "n", "n", about=1)
B = Letter("B", "n", "n")
C = Letter("C", "n", "n")
S = Letter("S", "n", "n", symmetry="symmetric", about=2)
K = Letter("K", "n", "n", symmetry="skew")
X = Letter("X", "n", "p")
EYE = Eye("n")


def basis_of(rows):
    """The reduced basis of the relations between rows of fractions."""
    found, kept = [], []
    for index in range(len(rows) - 1, -1, -1):
        mixed = reference.mixture([rows[k] for k in kept], rows[index])
        if mixed is None:
            kept.append(index)
        else:
            relation = [reference.Fraction(0)] * len(rows)
            relation[index] = reference.Fraction(1)
            for k, number in zip(kept, mixed):
                relation[k] = -number
            found.append(relation)
    return found[::-1]


def rows_of(formulas, longest):
    """For each formula the entries of all coefficients of words of at most so many symbols."""
    letters, known = reference.letters_of(formulas), {}
    words = list(reference.words(letters, longest))
    return [[x for word in words for row in reference.coefficient(one, word, letters, known) for x in row] for one in formulas]


class RelationsCase(CheckedCase):
    def assert_basis(self, found, expected):
        self.assertIs(type(found), tuple)
        for relation in found:
            self.assertIs(type(relation), tuple)
            self.assertTrue(all(type(number) is Ratio for number in relation))
        self.assertEqual([[str(number) for number in relation] for relation in found], [[str(x) for x in relation] for relation in expected])

    def assert_numbers(self, found, expected):
        if expected is None:
            self.assertIsNone(found)
        else:
            self.assert_basis((found,), [expected])


class BasisTest(RelationsCase):
    def test_interface(self):
        self.assert_interface(module, {"relations": (), "combination": ()})

    def test_by_hand(self):
        for formulas, expected in (
            ((A,), []), ((A - A,), [[1]]), ((Zero("n", "p"),), [[1]]), ((A, A), [[1, -1]]), ((A, A, A), [[1, 0, -1], [0, 1, -1]]), ((A, B), []),
            ((A * 2, A * 3), [[1, "-2/3"]]), ((A - A, B), [[1, 0]]), ((B, A - A), [[0, 1]]), ((A - A, B - B), [[1, 0], [0, 1]]),
            ((A, B, A + B), [[1, 1, -1]]), ((A + B, A - B, A, B), [[1, 0, -1, -1], [0, 1, -1, 1]]), ((A, EYE, A - EYE * 4), [[1, -4, -1]]),
            (((A + B) ** 2, A * A + B * B, A * B, B * A, B * A * 2), [[1, -1, -1, 0, "-1/2"], [0, 0, 0, 1, "-1/2"]]),
            ((A * B, B * A), []), ((S, S.transposed), [[1, -1]]), ((K, K.transposed), [[1, 1]]), ((B, B.transposed, B + B.transposed), [[1, 1, -1]]),
            ((A.inverse(), A.inverse() * B, A.inverse() * (EYE + B) * Ratio(1, 2)), [[1, 1, -2]]), ((A.inverse(), A, EYE), []),
            (((EYE - B).inverse(), (EYE - B).inverse() * B, EYE, C), [[1, -1, -1, 0]]),
            ((Blocks(((A, X),)), Blocks(((A, X * 2),)), Blocks(((EYE, Zero("n", "p")),)), Blocks(((A, X * 3),))), [[1, -2, 0, 1]]),
            ((Blocks(((A, B),)), Blocks(((B, A),))), []),
            (((EYE + B).inverse() * (EYE - B), (EYE + B).inverse(), EYE), [[1, -2, 1]]),
        ):
            self.assert_basis(relations(*formulas), expected)

    def test_drawn_formulas(self):
        random = Random(81)
        groups = {}
        for one in drawn(600, 4, seed=82, most=6):
            if form(one).rank <= 2 and len(one.letters) <= 2:
                groups.setdefault((one.rows, one.columns), []).append(one)
        sizes = set()
        for group in groups.values():
            for _ in range(6):
                some = [random.choice(group) for _ in range(random.randint(1, 3))]
                for _ in range(random.randint(0, 2)):
                    mixed = random.choice(some) * random.choice(NUMBERS) + random.choice(some) * random.choice(NUMBERS)
                    some.insert(random.randint(0, len(some)), mixed)
                if len(reference.letters_of(some)) > 3:
                    continue
                expected = basis_of(rows_of(some, 3))
                found = relations(*some)
                self.assert_basis(found, expected)
                sizes.add(len(found))
                for at, one in enumerate(some):
                    rest = some[:at] + some[at + 1:]
                    if rest:
                        first = basis_of(rows_of([one] + rest, 3))
                        numbers = [-x for x in first[0][1:]] if first and first[0][0] else None
                        self.assert_numbers(combination(one, *rest), numbers)
        self.assertGreaterEqual(sizes, {0, 1, 2, 3})

    def test_all_relations_are_combinations_of_those_returned(self):
        powers = [B ** k for k in range(1, 6)] + [EYE]
        sums = [(B + EYE * k) ** 5 for k in range(8)]
        found = relations(*(sums + powers))
        self.assertEqual(len(found), 8)
        for k, relation in enumerate(found):
            self.assertEqual([str(number) for number in relation[:8]], ["1" if k == j else "0" for j in range(8)])
            total = sums[k]
            for number, one in zip(relation[8:], powers):
                total = total + one * number
            self.assertTrue(same(total, Zero("n", "n")))

    def test_many_formulas(self):
        self.assert_basis(relations(*MANY), [])
        products = [MANY[i] * MANY[j] for i in range(5) for j in range(5)]
        self.assert_basis(relations(*products), [])
        total = products[0]
        for one in products[1:]:
            total = total + one
        self.assert_basis(relations(total, *products), [[1] + [-1] * 25])
        rich = chain(MANY[:24])
        self.assert_basis(relations(rich, rich * 2, chain(MANY[16:])), [[1, "-1/2", 0]])

    def test_at_the_limits(self):
        heavy = (A.inverse() * B + C) * Ratio(1, 2)
        for _ in range(8):
            heavy = heavy + heavy
        self.assert_error(TooLarge, (1000,), lambda: heavy + heavy)
        self.assert_basis(relations(heavy, heavy * 2, A.inverse() * B, C), [[1, 0, -128, -128], [0, 1, -256, -256]])
        self.assert_numbers(combination(heavy, C, A.inverse() * B), [128, 128])
        high = B
        while high.levels < 60:
            high = high * -1
        self.assert_basis(relations(high, B), [[1, 1]])


class CombinationTest(RelationsCase):
    def test_by_hand(self):
        for one, others, expected in (
            (A, (), None), (A - A, (), []), (Zero("n", "p"), (), []), (A, (A,), [1]), (A, (A * 2,), ["1/2"]), (A, (B,), None), (A, (A, A), [0, 1]),
            (A, (A, A * 2, B), [0, "1/2", 0]), (A + B, (A, B), [1, 1]), (A - A, (A, B), [0, 0]), (A, (A - A, A), [0, 1]), (A, (B - B,), None),
            ((EYE + A) * (EYE - A), (A * A, EYE, A), [-1, 1, 0]), (A, (A + B, A - B), ["1/2", "1/2"]), (A, (A + B, A - B, B), [0, 1, 1]),
            (A * B, (B * A, A * B + B * A), [-1, 1]), (A, (A * B, B), None), (K.transposed, (K,), [-1]), (X, (X * 3,), ["1/3"]),
            (A.inverse(), (EYE, A), None), (EYE, (A, A - EYE), [1, -1]), (EYE, (A, A - EYE, EYE * 2), [0, 0, "1/2"]), (B, (A, A - A, C, B + C, A), [0, 0, -1, 1, 0]),
        ):
            self.assert_numbers(combination(one, *others), expected)

    def test_numbers_of_those_that_are_combinations_of_later_ones_are_0(self):
        found = combination(A * 2 + B, A, B, A + B, A - B)
        self.assert_numbers(found, [0, 0, "3/2", "1/2"])
        found = combination(A * 2 + B, A + B, A - B, A, B)
        self.assert_numbers(found, [0, 0, 2, 1])

    def test_formula_by_name_alone(self):
        self.assertIsNone(combination(formula=A))


class ErrorsTest(RelationsCase):
    def test_no_formulas(self):
        for given in NO_INTEGERS + (1, "A", (A,), [A], form(A)):
            for call in (relations, combination):
                self.assert_given(NotAFormula, given, call, given)
                self.assert_given(NotAFormula, given, call, given, 5)
                self.assert_given(NotAFormula, given, call, A, given)
                self.assert_given(NotAFormula, given, call, A, X, chain(MANY), given, None)
        self.assert_error(InvalidSize, (0,), relations)
        with self.assertRaises(TypeError):
            combination()

    def test_clash(self):
        other = Letter("A", "n", "n")
        for call in (relations, combination):
            self.assert_error(Clash, ("A",), call, A, other)
            self.assert_error(Clash, ("A",), call, B, A, X, other)
            self.assert_error(Clash, ("A",), call, A * C, Letter("C", "n", "n", about=3) * B, other)
            self.assert_error(Clash, ("L3",), call, chain(MANY), Letter("L3", "p", "p"))

    def test_mismatch(self):
        square, wide = (("n",), ("n",)), (("n",), ("p",))
        for call in (relations, combination):
            self.assert_error(Mismatch, (square, wide), call, A, X)
            self.assert_error(Mismatch, (square, wide), call, A, B, C, X, Eye("p"))
            self.assert_error(Mismatch, (wide, (("p",), ("n",))), call, X, X * 2, X.transposed, A)
            self.assert_error(Mismatch, (square, (("n", "n"), ("n",))), call, chain(MANY), B, Zero(("n", "n"), "n"))

    def test_too_rich(self):
        rich = chain(MANY)
        for call in (relations, combination):
            self.assert_error(TooRich, (24,), call, rich)
            self.assert_error(TooRich, (24,), call, A, B, rich)
            self.assert_error(TooRich, (24,), call, A, rich * 0)
            self.assert_error(TooRich, (24,), call, rich, rich)

    def test_nothing_changes(self):
        formulas = [A, B, A + B]
        before = [str(one) for one in formulas]
        self.assertEqual([[str(x) for x in row] for row in relations(*formulas)], [[str(x) for x in row] for row in relations(*formulas)])
        self.assertEqual([str(one) for one in formulas], before)


if __name__ == "__main__":
    unittest.main()
