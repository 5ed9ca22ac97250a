import unittest
from random import Random

import reference
from checks import CheckedCase
from drawing import MANY, chain, drawn
from matrixforms import sameness
from matrixforms.errors import Clash, Mismatch, NotAFormula, TooLarge, TooRich
from matrixforms.formulas import Blocks, Eye, Letter, Zero
from matrixforms.forms import form
from matrixforms.matrices import Matrix
from matrixforms.ratios import Ratio
from matrixforms.reading import read
from matrixforms.sameness import (
    Parting, commute, idempotent, inverses, orthogonal, parting, same, skew, symmetric,
)
from matrixforms.values import value
from rewriting import Rewriting
from samples import NO_INTEGERS, Stubborn

A = Letter("A", "n", "n", about=1)
B = Letter("B", "n", "n")
C = Letter("C", "n", "n")
S = Letter("S", "n", "n", symmetry="symmetric", about=2)
K = Letter("K", "n", "n", symmetry="skew")
X = Letter("X", "n", "p")
Y = Letter("Y", "p", "n")
KNOWN = (A, B, C, S, K, X, Y)
ONE_FORMULA = (symmetric, skew, idempotent, orthogonal)
TWO_FORMULAS = (same, parting, commute, inverses)


def positions_of(word, letters):
    """The pairs of a size name and a number for the positions along a word."""
    names = [reference.ends_of(word[0], letters)[0]] + [reference.ends_of(y, letters)[1] for y in word]
    return [(name, names[:k].count(name)) for k, name in enumerate(names)]


def matrices_of(word, divisor, sizes, letters):
    """The matrices of point 19, as tables."""
    step = reference.Fraction(1, divisor)
    found = {}
    for name, letter in letters.items():
        rows, columns = sizes[letter.rows[0]], sizes[letter.columns[0]]
        found[name] = reference.zeros(rows, columns)
        if letter.rows == letter.columns:
            found[name] = reference.scaled(reference.fraction(letter.about), reference.identity(rows))
    places = positions_of(word, letters) if word else []
    for j, (name, turned) in enumerate(word):
        before, after = places[j][1], places[j + 1][1]
        if turned:
            found[name][after][before] = step
        else:
            found[name][before][after] = step
        if letters[name].symmetry == "symmetric":
            found[name][after][before] = step
        if letters[name].symmetry == "skew":
            found[name][after][before] = -step
    return found


class SamenessCase(CheckedCase):
    def assert_parting(self, one, other):
        """The parting of formulas that are not the same is as point 19 makes it."""
        found = parting(one, other)
        self.assertIs(type(found), Parting)
        letters, known = reference.letters_of([one, other]), {}
        word = next(
            word for word in reference.words(letters, len(found.word))
            if reference.coefficient(one, word, letters, known) != reference.coefficient(other, word, letters, known)
        )
        self.assert_alike(found.word, word)
        sizes = {name: 1 for name in sorted({*one.sizes, *other.sizes})}
        for name, number in positions_of(word, letters) if word else []:
            sizes[name] = max(sizes[name], number + 1)
        self.assertEqual(list(found.sizes.items()), list(sizes.items()))
        divisor = 0
        while True:
            divisor += 1
            tables = matrices_of(word, divisor, sizes, letters)
            try:
                left, right = reference.value(one, sizes, tables), reference.value(other, sizes, tables)
            except reference.NoInverse:
                continue
            if left != right:
                break
        self.assert_alike(found.divisor, divisor if word else 1)
        self.assertEqual(list(found.matrices), sorted(letters))
        self.assertEqual({name: reference.table_of(matrix) for name, matrix in found.matrices.items()}, tables)
        self.assertEqual(reference.table_of(found.left), left)
        self.assertEqual(reference.table_of(found.right), right)
        self.assertEqual(value(one, found.sizes, found.matrices), found.left)
        self.assertEqual(value(other, found.sizes, found.matrices), found.right)
        self.assertFalse(found.left == found.right)
        return found


class SameTest(SamenessCase):
    def test_interface(self):
        self.assert_interface(sameness, {
            "same": (), "parting": (), "symmetric": (), "skew": (), "idempotent": (), "orthogonal": (), "commute": (), "inverses": (),
            "Parting": ("word", "divisor", "sizes", "matrices", "left", "right", "__eq__"),
        })

    def test_formulas_written_in_several_ways(self):
        rewriting = Rewriting(Random(71))
        for one in drawn(150, 4, seed=72, most=10):
            other = rewriting.rewritten(one)
            try:
                self.assertIs(same(one, other), True, (str(one), str(other)))
            except TooRich:
                continue
            self.assertIs(same(other=one, formula=other), True)
            self.assertIsNone(parting(one, other))
            self.assertEqual(form(one) == form(other), True)

    def test_drawn_pairs(self):
        groups = {}
        for one in drawn(500, 4, seed=73, most=8):
            groups.setdefault((one.rows, one.columns), []).append(one)
        parted = 0
        for group in groups.values():
            for one, other in zip(group, group[1:]):
                alike = form(one) == form(other)
                self.assertIs(same(one, other), alike)
                if alike:
                    self.assertIsNone(parting(one, other))
                else:
                    parted += 1
                    self.assert_parting(one, other)
        self.assertGreater(parted, 300)

    def test_it_does_not_depend_on_the_numbers(self):
        for about in (0, 1, Ratio(5, 3)):
            one, other = Letter("A", "n", "n", about=about), Letter("B", "n", "n", about=about)
            self.assertIs(same((one + other) ** 2, one * one + one * other + other * one + other * other), True)
            self.assertIs(same(one * other, other * one), False)

    def test_letters_of_one_formula_alone(self):
        self.assertIs(same(A + B - B, A), True)
        self.assertIs(same(A, A + B * 0), True)
        self.assertIs(same(A, B), False)
        # Only the moves, the starts or the ends of their forms differ.
        self.assertIs(same((Eye("n") - B).inverse() * B, (Eye("n") - B * 2).inverse() * B), False)
        self.assertIs(same(Blocks(((B,), (B * 2,))), Blocks(((B,), (B * 3,)))), False)
        self.assertIs(same(Blocks(((B, B * 2),)), Blocks(((B, B * 3),))), False)
        self.assertIs(same(B - B, C - C), True)

    def test_at_the_limits(self):
        heavy = (A.inverse() * B + C) * Ratio(1, 2)
        for _ in range(8):
            heavy = heavy + heavy
        self.assertEqual(heavy.weight, 768)
        self.assert_error(TooLarge, (1000,), lambda: heavy - heavy)
        self.assertIs(same(heavy, (A.inverse() * B + C) * 128), True)
        self.assertIs(same(heavy, heavy * Ratio(127, 128)), False)
        self.assertIsNone(parting(heavy, heavy))
        self.assertEqual(parting(heavy, heavy * 2).word, (("B", False),))
        high = S
        while high.levels < 60:
            high = high * -1
        self.assert_error(TooLarge, (60,), lambda: high.transposed)
        self.assertIs(symmetric(high), True)
        self.assertIs(skew(high), False)
        self.assertIs(same(high, -S), True)
        self.assertIs(idempotent(heavy), False)
        self.assertIs(orthogonal(high), False)
        self.assertIs(commute(heavy, heavy), True)
        self.assertIs(commute(heavy, high), False)
        self.assertIs(inverses(high, high), False)
        flat = Eye("n")
        while flat.levels < 60:
            flat = flat.transposed
        for question in (symmetric, idempotent, orthogonal):
            self.assertIs(question(flat), True)
        self.assertIs(inverses(flat, flat), True)
        rest = chain(MANY[:24])
        self.assertIs(commute(rest, rest * 2 + Eye("n")), True)
        self.assertIs(commute(rest, chain(MANY[16:40])), False)
        self.assertIs(symmetric(rest), False)


class PartingTest(SamenessCase):
    def test_by_hand(self):
        found = parting(B * A, A * B)
        self.assert_alike(found.word, (("A", False), ("B", False)))
        self.assertEqual((found.divisor, found.sizes), (1, {"n": 3}))
        self.assertEqual(str(found.matrices["A"]), "1 1 0; 0 1 0; 0 0 1")
        found = parting(X * Y, X * Y * 2)
        self.assertEqual((found.word, found.sizes), ((("X", False), ("Y", False)), {"n": 2, "p": 1}))
        self.assertEqual([str(found.matrices[name]) for name in "XY"], ["1; 0", "0 1"])
        found = parting(X.transposed, Zero("p", "n"))
        self.assertEqual((found.word, found.sizes, str(found.matrices["X"])), ((("X", True),), {"n": 1, "p": 1}, "1"))
        found = parting(K * S, S * K)
        self.assertEqual((found.word, found.sizes), ((("K", False), ("S", False)), {"n": 3}))
        self.assertEqual([str(found.matrices[name]) for name in "KS"], ["0 1 0; -1 0 0; 0 0 0", "2 0 0; 0 2 1; 0 1 2"])

    def test_each_kind_of_letter(self):
        for one, other in (
            (B * A, A * B), (S * B, B * S), (K * S, S * K), (K * K, S * S), (B, B.transposed), (B * B.transposed, B.transposed * B),
            (X * X.transposed, X * Y), (X.transposed * B * X, Zero("p", "p")), (K, K.transposed), (S * K * S, K * S * K), (B * K * B.transposed, B * K * B),
            (Blocks(((A, X), (Y, Eye("p")))), Blocks(((A, X), (Y * 2, Eye("p"))))), (X * Y, (X * Y).transposed),
            ((Eye("n") + K).inverse(), Eye("n") - K), ((Eye("n") - S * B).inverse(), Eye("n")), (S.inverse(), S * Ratio(1, 4)),
        ):
            self.assert_parting(one, other)

    def test_the_empty_word(self):
        found = self.assert_parting(A * S * B, A * S)
        self.assertEqual((found.word, found.divisor, found.sizes), ((), 1, {"n": 1}))
        self.assertEqual({name: str(matrix) for name, matrix in found.matrices.items()}, {"A": "1", "B": "0", "S": "2"})
        found = self.assert_parting(Blocks(((S, X), (Y, Eye("p") * 3))).inverse(), Eye(("n", "p")))
        self.assertEqual((found.sizes, str(found.left), str(found.right)), ({"n": 1, "p": 1}, "1/2 0; 0 1/3", "1 0; 0 1"))
        found = self.assert_parting(Eye(("n", "q")), Zero(("n", "q"), ("n", "q")))
        self.assertEqual((found.sizes, found.matrices), ({"n": 1, "q": 1}, {}))

    def test_divisors_greater_than_one(self):
        # At the divisor 1 an inverse has no value, or other terms make up for the difference.
        zero = Letter("Z", "n", "n", symmetry="symmetric")
        found = self.assert_parting((Eye("n") - zero).inverse(), Eye("n"))
        self.assertEqual((found.word, found.divisor, str(found.matrices["Z"])), ((("Z", False),), 2, "0 1/2; 1/2 0"))
        found = self.assert_parting(zero, zero ** 3)
        self.assertEqual((found.divisor, str(found.left), str(found.right)), (2, "0 1/2; 1/2 0", "0 1/8; 1/8 0"))
        found = self.assert_parting(K, K ** 3 * -1)
        self.assertEqual((found.divisor, str(found.matrices["K"])), (2, "0 1/2; -1/2 0"))
        other = (B - B * B.transposed * B).transposed
        found = self.assert_parting(other, Zero("n", "n"))
        self.assertEqual((found.word, found.divisor), ((("B", True),), 2))
        found = self.assert_parting(S * Ratio(1, 1), Eye("n") * 2 + (S - Eye("n") * 2) ** 3)
        self.assertEqual((found.word, found.divisor), ((("S", False),), 2))
        found = self.assert_parting(B * ((B.transposed * B - Eye("n") * Ratio(1, 4)) * (B.transposed * B - Eye("n"))), Zero("n", "n"))
        self.assertEqual((found.word, found.divisor), ((("B", False),), 3))

    def test_long_words(self):
        found = self.assert_parting(chain(MANY[:3]), chain(MANY[:2]) * MANY[3])
        self.assertEqual(found.sizes, {"n": 4})
        found = parting(chain(MANY[:24]), Zero("n", "n"))
        self.assertEqual(found.word, tuple((f"L{k}", False) for k in range(24)))
        self.assertEqual((found.sizes, found.divisor), ({"n": 25}, 1))
        self.assertEqual([(i, j) for i in range(25) for j in range(25) if found.left[i, j]], [(0, 24)])
        self.assertEqual(found.right, Matrix.zero(25, 25))
        found = parting((Eye("n") - B).inverse() * (Eye("n") - B ** 8), (Eye("n") - B).inverse() * (Eye("n") - B ** 7))
        self.assertEqual(found.word, (("B", False),) * 7)

    def test_size_names_without_positions(self):
        found = self.assert_parting(B * Zero("n", "q") * Zero("q", "n") + C, B)
        self.assertEqual(list(found.sizes.items()), [("n", 2), ("q", 1)])
        found = self.assert_parting(C + X * Y * 0, B)
        self.assertEqual(list(found.matrices), ["B", "C", "X", "Y"])
        self.assertEqual(str(found.matrices["X"]), "0; 0")

    def test_new_dicts_at_each_read(self):
        found = parting(A * B, B * A)
        sizes, matrices = found.sizes, found.matrices
        self.assertIs(type(sizes), dict)
        self.assertIs(type(matrices), dict)
        self.assertIsNot(sizes, found.sizes)
        self.assertIsNot(matrices, found.matrices)
        sizes["n"] = 7
        matrices.clear()
        self.assertEqual(found.sizes, {"n": 3})
        self.assertEqual(list(found.matrices), ["A", "B"])

    def test_equality(self):
        one = parting(A * B, B * A)
        self.assertTrue(one == parting(A * B, B * A))
        self.assertFalse(one != parting(A * B, B * A))
        for other in (parting(B * A, A * B), parting(A * B, B * A * 2), parting(A * C, C * A), parting(B, C), parting(A * B, A * B + B * B)):
            self.assertFalse(one == other)
            self.assertTrue(one != other)
        for other in NO_INTEGERS + (one.word, one.sizes, one.left, A):
            self.assertIs(one == other, False)
            self.assertIs(one != other, True)
        self.assertIs(one == Stubborn(), False)
        self.assertTrue(one)
        parts = (one.word, one.divisor, one.sizes, one.matrices, (one.left, one.right))
        self.assertTrue(Parting(*parts) == one)
        changes = ((), 2, {"n": 4}, {"A": one.matrices["A"]}, (one.right, one.right), (one.left, one.left))
        for index, change in zip((0, 1, 2, 3, 4, 4), changes):
            self.assertFalse(Parting(*parts[:index], change, *parts[index + 1:]) == one)


class QuestionsTest(SamenessCase):
    def test_symmetric_and_skew(self):
        for text, expected in (
            ("S", (True, False)), ("K", (False, True)), ("A", (False, False)), ("A + A'", (True, False)), ("A - A'", (False, True)), ("zero(n; n)", (True, True)),
            ("X * X'", (True, False)), ("K * K", (True, False)), ("K * S", (False, False)), ("K * S + S * K", (False, True)), ("K ** 3", (False, True)),
            ("inv(S)", (True, False)), ("B' * K * B", (False, True)), ("B' * S * B", (True, False)), ("X * Y", (False, False)), ("B * B", (False, False)),
            ("inv(eye(n) + X * X')", (True, False)), ("blocks(S, X; X', eye(p))", (True, False)), ("blocks(K, X; -X', zero(p; p))", (False, True)),
            ("blocks(S, X; -X', eye(p))", (False, False)), ("inv(blocks(S, X; X', eye(p)))", (True, False)), ("S - S'", (True, True)), ("eye(n)", (True, False)),
            ("A * inv(A) * K", (False, True)), ("inv(A) * S * inv(A')", (True, False)), ("inv(A) * S * inv(A)", (False, False)),
        ):
            one = read(text, KNOWN)
            found = (symmetric(one), skew(formula=one))
            self.assert_alike(found, expected)
            self.assertEqual(found, (same(one, one.transposed), same(one, -one.transposed)), text)

    def test_idempotent(self):
        for text, expected in (
            ("eye(n)", True), ("zero(n; n)", True), ("A", False), ("-eye(n)", False), ("A * inv(A)", True), ("blocks(eye(n), B; zero(n; n), zero(n; n))", True),
            ("blocks(eye(n), B; zero(n; n), eye(n))", False), ("blocks(eye(n); A') * inv(eye(n) + A' * A) * blocks(eye(n), A)", False),
            ("blocks(eye(n); A) * inv(eye(n) + A' * A) * blocks(eye(n), A')", True), ("blocks(A, B; zero(n; n), zero(n; n))", False), ("B - B", True),
            ("blocks(X; eye(p)) * blocks(zero(p; n), eye(p))", True), ("1/2 * eye(n)", False),
        ):
            one = read(text, KNOWN)
            self.assert_alike(idempotent(one), expected)
            self.assertEqual(idempotent(one), same(one * one, one), text)

    def test_orthogonal(self):
        for text, expected in (
            ("eye(n)", True), ("-eye(n)", True), ("2 * eye(n)", False), ("A", False), ("zero(n; n)", False), ("(eye(n) + K) * inv(eye(n) - K)", True),
            ("inv(eye(n) - K) * (eye(n) + K)", True), ("(eye(n) + S) * inv(eye(n) + S)", True), ("(eye(n) + K) * inv(eye(n) + 2 * K)", False),
            ("blocks(zero(n; n), eye(n); -eye(n), zero(n; n))", True), ("blocks(zero(n; n), eye(n); eye(n), B)", False),
            ("eye(n) - 2 * A * inv(A' * A) * A'", True), ("blocks(3/5 * eye(n), 4/5 * eye(n); -4/5 * eye(n), 3/5 * eye(n))", True), ("K", False),
        ):
            one = read(text, KNOWN)
            self.assert_alike(orthogonal(one), expected)
            eye = Eye(one.rows)
            self.assertEqual(orthogonal(one), same(one.transposed * one, eye) and same(one * one.transposed, eye), text)

    def test_commute_and_inverses(self):
        for left, right, expected in (
            ("A", "A", (True, False)), ("A", "B", (False, False)), ("A", "inv(A)", (True, True)), ("B", "eye(n)", (True, False)), ("eye(n)", "eye(n)", (True, True)),
            ("B", "B * B + B", (True, False)), ("B", "zero(n; n)", (True, False)), ("eye(n) + K", "inv(eye(n) - K)", (True, False)), ("A", "2 * inv(A)", (True, False)),
            ("A * S", "inv(S) * inv(A)", (True, True)), ("A * S", "inv(A) * inv(S)", (False, False)), ("B", "B'", (False, False)), ("S", "S'", (True, False)),
            ("blocks(eye(n), B; zero(n; n), eye(n))", "blocks(eye(n), -B; zero(n; n), eye(n))", (True, True)), ("inv(eye(n) + B)", "eye(n) - B * inv(eye(n) + B)", (True, False)),
            ("inv(eye(n) + X * Y)", "eye(n) + X * Y", (True, True)), ("eye(n) - X * inv(eye(p) + Y * X) * Y", "eye(n) + X * Y", (True, True)),
        ):
            one, other = read(left, KNOWN), read(right, KNOWN)
            self.assert_alike((commute(one, other), inverses(one, other)), expected)
            self.assert_alike((commute(other=one, formula=other), inverses(other=one, formula=other)), expected)
            eye = Eye(one.rows)
            self.assertEqual(expected, (same(one * other, other * one), same(one * other, eye) and same(other * one, eye)))

    def test_drawn_formulas(self):
        for one in drawn(150, 4, seed=74, most=8):
            if one.rows != one.columns:
                continue
            turned = one.transposed
            for question, expected in (
                (symmetric, same(one, turned)), (skew, same(one, turned * -1)), (idempotent, same(one * one, one)),
                (orthogonal, same(one * turned, Eye(one.rows)) and same(turned * one, Eye(one.rows))),
            ):
                self.assertIs(question(one), expected)
            self.assertIs(commute(one, turned), same(one * turned, turned * one))


class ErrorsTest(SamenessCase):
    def test_no_formulas(self):
        for given in NO_INTEGERS + (1, "A", form(A), A.middle):
            for call in ONE_FORMULA:
                self.assert_given(NotAFormula, given, call, given)
            for call in TWO_FORMULAS:
                self.assert_given(NotAFormula, given, call, given, A)
                self.assert_given(NotAFormula, given, call, A, given)
                self.assert_given(NotAFormula, given, call, given, 5)
                self.assert_given(NotAFormula, given, call, X, given)
                self.assert_given(NotAFormula, given, call, chain(MANY), given)

    def test_clash(self):
        for call in TWO_FORMULAS:
            self.assert_error(Clash, ("A",), call, A, Letter("A", "n", "n", about=2))
            self.assert_error(Clash, ("A",), call, B * A * C, Letter("C", "n", "n", about=2) + Letter("A", "n", "n", symmetry="skew"))
            self.assert_error(Clash, ("L1",), call, chain(MANY), Letter("L1", "n", "n", about=2))
        for call in (same, parting):
            self.assert_error(Clash, ("X",), call, X, Letter("X", "p", "n"))
        for call in (commute, inverses):
            self.assert_error(Clash, ("A",), call, A, Letter("A", "p", "p"))

    def test_mismatch_of_two(self):
        for call in (same, parting):
            self.assert_error(Mismatch, ((("n",), ("n",)), (("n",), ("p",))), call, A, X)
            self.assert_error(Mismatch, ((("n",), ("p",)), (("p",), ("n",))), call, X, Y)
            self.assert_error(Mismatch, ((("n",), ("n",)), (("n", "n"), ("n", "n"))), call, chain(MANY), Eye(("n", "n")))
            self.assert_error(Mismatch, ((("n", "p"), ("n", "p")), (("p", "n"), ("p", "n"))), call, Eye(("n", "p")), Eye(("p", "n")))

    def test_mismatch_of_square_formulas(self):
        for call in ONE_FORMULA:
            self.assert_error(Mismatch, (("n",), ("p",)), call, X)
            self.assert_error(Mismatch, (("n", "p"), ("p", "n")), call, Zero(("n", "p"), ("p", "n")))
            self.assert_error(Mismatch, (("n",), ("p",)), call, chain(MANY) * X)
        for call in (commute, inverses):
            self.assert_error(Mismatch, (("n",), ("p",)), call, X, Y)
            self.assert_error(Mismatch, (("p",), ("n",)), call, A, Y)
            self.assert_error(Mismatch, (("p",), ("n",)), call, Y, A)
            self.assert_error(Mismatch, (("n",), ("p",)), call, X, Letter("X", "n", "n"))
            self.assert_error(Mismatch, (("n",), ("p",)), call, A, Eye("p"))
            self.assert_error(Mismatch, (("n", "p"), ("p", "n")), call, Eye(("n", "p")), Eye(("p", "n")))
            self.assert_error(Mismatch, (("n",), ("p",)), call, chain(MANY), Eye("p"))

    def test_too_rich(self):
        rich = chain(MANY)
        for call in ONE_FORMULA:
            self.assert_error(TooRich, (24,), call, rich)
            self.assert_error(TooRich, (24,), call, rich * 0)
        for call in TWO_FORMULAS:
            self.assert_error(TooRich, (24,), call, rich, A)
            self.assert_error(TooRich, (24,), call, A, rich)
            self.assert_error(TooRich, (24,), call, A, A + rich * 0)
            self.assert_error(TooRich, (24,), call, rich, rich)


if __name__ == "__main__":
    unittest.main()
