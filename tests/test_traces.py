import unittest

import firstorder
import reference
from checks import CheckedCase
from drawing import LETTERS, MANY, Drawing, chain, drawn
from matrixforms import traces
from matrixforms.changes import derivative
from matrixforms.errors import Clash, InvalidWord, Mismatch, NotAFormula, TooLarge, TooRich, UnknownName
from matrixforms.forms import form
from matrixforms.formulas import Blocks, Eye, Formula, Letter, Zero
from matrixforms.ratios import Ratio
from matrixforms.reading import read
from matrixforms.sameness import same
from matrixforms.traces import equal_traces, gradient, trace_parting, trace_sum
from rewriting import all_in
from samples import NO_INTEGERS, Stubborn
from test_changes import inverses_within
from test_formula_errors import NO_FORMULAS

A = Letter("A", "n", "n", about=1)
B = Letter("B", "n", "n")
C = Letter("C", "n", "n")
S = Letter("S", "n", "n", symmetry="symmetric", about=2)
K = Letter("K", "n", "n", symmetry="skew")
M = Letter("M", "n", "n", symmetry="skew")
X = Letter("X", "n", "p")
Y = Letter("Y", "p", "n")
D = Letter("D", "p", "p", about=2)
EYE = Eye("n")
KNOWN = (A, B, C, S, K, M, X, Y, D)


def of(text):
    return read(text, KNOWN)


def is_closed(word, letters):
    return bool(word) and reference.is_word(word + word[:1], letters)


def sum_of(one, word, letters, known):
    """The sum of a closed word (point 22)."""
    total = reference.Fraction(0)
    back, sign = reference.turned_back(word, letters)
    for k in range(len(word)):
        total += reference.trace(reference.coefficient(one, word[k:] + word[:k], letters, known))
        total += sign * reference.trace(reference.coefficient(one, back[k:] + back[:k], letters, known))
    return total


def share_of(one, name):
    table = reference.table_of(one.middle)
    return sum((table[k][k] for k, other in enumerate(one.rows) if other == name), reference.Fraction(0))


def first_difference(one, other, longest):
    """What point 22 and the interface say of the first difference, for words of at most so many symbols."""
    for name in sorted({*one.rows, *other.rows}):
        shares = share_of(one, name), share_of(other, name)
        if shares[0] != shares[1]:
            return (name, *shares)
    letters, known = reference.letters_of([one, other]), {}
    for word in reference.words(letters, longest):
        if is_closed(word, letters):
            sums = sum_of(one, word, letters, known), sum_of(other, word, letters, known)
            if sums[0] != sums[1]:
                return (word, *sums)
    return None


def few(formulas, most):
    """Those of these square formulas for which the sum with the transpose has at most this rank."""
    found = []
    for one in formulas:
        try:
            if one.rows == one.columns and form(one + one.transposed).rank <= most:
                found.append(one)
        except TooRich:
            continue
    return found


class TracesCase(CheckedCase):
    def assert_numbers(self, found, expected):
        self.assertIs(type(found), tuple)
        self.assertEqual(found[0], expected[0])
        self.assertEqual([type(x) for x in found[1:]], [Ratio, Ratio])
        self.assertEqual([reference.fraction(x) for x in found[1:]], list(expected[1:]))

    def assert_equal_values(self, drawing, one, other):
        """The traces of the values are equal for drawn matrices; tell whether there are values."""
        sizes = {name: drawing.random.randint(1, 3) for name in (*one.sizes, *other.sizes)}
        tables = {name: drawing.table(letter, sizes) for name, letter in reference.letters_of([one, other]).items()}
        try:
            values = [reference.value(x, sizes, tables) for x in (one, other)]
        except reference.NoInverse:
            return False
        self.assertEqual(*map(reference.trace, values))
        return True

    def assert_parted(self, one, other):
        found = trace_parting(one, other)
        self.assertIs(equal_traces(one, other), found is None)
        if found is not None:
            longest = len(found[0]) if isinstance(found[0], tuple) else 0
            self.assert_numbers(found, first_difference(one, other, longest))
        return found


class EqualTracesTest(TracesCase):
    def test_interface(self):
        self.assert_interface(traces, {"equal_traces": (), "trace_parting": (), "trace_sum": (), "gradient": ()})

    def test_equal_ones_by_hand(self):
        for one, other in (
            ("A * B", "B * A"), ("A * B * C", "C * A * B"), ("A * B * C", "C' * B' * A'"), ("X * Y", "Y * X"), ("X * Y * A", "Y * A * X"), ("X' * A * X", "A' * X * X'"),
            ("A", "A'"), ("inv(A) * B * A", "B"), ("inv(A * B + eye(n))", "inv(B * A + eye(n))"), ("S * B", "B' * S"), ("S * B * S", "S * S * B'"), ("K", "zero(n; n)"),
            ("K * S", "0 * S"), ("K * K * K", "zero(n; n)"), ("K * S * S", "zero(n; n)"), ("K * B", "-K * B'"), ("K * M", "M * K"), ("K * M * S", "M * K * S"), ("K * S * M", "S * K * M"), ("K * B * K * S", "B * K * S * K"),
            ("blocks(A, X; Y, D)", "blocks(D, Y; X, A)"), ("blocks(A, B; C, inv(A))", "A + inv(A)"), ("blocks(A, X; Y, D) ** 2", "blocks(A * A + 2 * X * Y, zero(n; p); X' * A, D * D)"),
            ("(A + B) ** 2", "A * A + 2 * A * B + B * B"), ("A * B - B * A", "zero(n; n)"), ("A * (B + C) - A * B", "C * A"), ("zero(n; n)", "zero(p, p; p, p)"), ("eye(n, p)", "eye(p, n)"),
            ("X * inv(eye(p) + Y * X) * Y", "Y * inv(eye(n) + X * Y) * X"), ("A * B * A * B", "B * A * B * A"), ("(B * C) ** 2", "(C' * B') ** 2"), ("inv(A) * B * inv(A) * B'", "B * inv(A) * B' * inv(A)"),
            ("X * D * Y", "D * Y * X"), ("blocks(zero(n; n), X; Y, zero(p; p)) ** 2", "2 * X * Y"), ("eye(n)", "eye(n)"),
        ):
            self.assertIs(equal_traces(of(one), of(other)), True, one)
            self.assertIs(equal_traces(other=of(one), formula=of(other)), True, one)
            self.assertIsNone(trace_parting(of(one), of(other)))

    def test_unlike_ones_by_hand(self):
        a, b, s, k, m, c = [(name, False) for name in "ABSKMC"]
        x, xt, y = ("X", False), ("X", True), ("Y", False)
        for one, other, expected in (
            ("A", "2 * A", ("n", 1, 2)), ("eye(n)", "eye(n, n)", ("n", 1, 2)), ("eye(n)", "eye(p)", ("n", 1, 0)), ("D", "zero(n; n)", ("p", 2, 0)), ("blocks(D, Y; X, A)", "zero(n; n)", ("n", 1, 0)),
            ("eye(n, p)", "eye(p)", ("n", 1, 0)), ("B", "C", ((b,), 1, 0)), ("B", "-B", ((b,), 1, -1)), ("B", "zero(p; p)", ((b,), 1, 0)), ("S", "2 * eye(n)", ((s,), 2, 0)), ("B * C", "C' * B", ((b, c), 1, 0)),
            ("A * B", "A * B * A", ((a, b), 1, 2)), ("B * C * B", "B * B' * C", ((b, b, c), 1, 0)), ("B * B", "zero(n; n)", ((b, b), 2, 0)), ("B * B'", "zero(n; n)", ((b, ("B", True)), 2, 0)),
            ("K * K", "zero(n; n)", ((k, k), 4, 0)), ("K * M", "zero(n; n)", ((k, m), 2, 0)), ("K * B", "zero(n; n)", ((b, k), 1, 0)), ("X * Y", "-X * Y", ((x, y), 1, -1)), ("X * X'", "2 * X' * X", ((x, xt), 2, 4)),
            ("(B * C) ** 2", "B * B * C * C", ((b, b, c, c), 0, 1)), ("K * B * M", "B * K * M", ((b, k, m), 0, 1)), ("inv(A)", "2 * eye(n) - A", ((a, a), 2, 0)),
            ("(B * C) ** 3", "zero(n; n)", ((b, c) * 3, 3, 0)),
        ):
            found = self.assert_parted(of(one), of(other))
            self.assert_numbers(found, expected)
            self.assert_numbers(trace_parting(other=of(one), formula=of(other)), (expected[0], expected[2], expected[1]))
            self.assertIs(equal_traces(of(one), of(other)), False)

    def test_drawn_pairs(self):
        drawing, counts = Drawing(131), [0, 0, 0]
        formulas = few(drawn(700, 4, seed=132, most=6), 8)
        for one, other in zip(formulas, formulas[1:]):
            # The middles are made alike, so that words are looked at.
            pairs = [(one, other)]
            if one.rows == other.rows:
                pairs.append((one, one + (other - other.transposed)))
            if len(one.rows) == 1:
                share = one.middle[0, 0]
                pairs.append((one - Eye(one.rows) * share, one * 2 - Eye(one.rows) * (share + share)))
            for left, right in pairs:
                try:
                    found = self.assert_parted(left, right)
                except TooRich:
                    continue
                if found is None:
                    counts[0] += self.assert_equal_values(drawing, left, right)
                else:
                    counts[2 if isinstance(found[0], tuple) else 1] += 1
        self.assertGreater(min(counts), 60, counts)

    def test_drawn_equal_ones(self):
        drawing, done = Drawing(133), 0
        for one in few(drawn(400, 4, seed=134, most=6), 5):
            ways = [one.transposed, one + one.transposed - one, Blocks(((one, Zero(one.rows, "p")), (Zero("p", one.rows), Zero("p", "p"))))]
            if one.kind == "product":
                ways.append(one.parts[1] * one.parts[0])
            if one.rows == ("n",):
                ways += [A.inverse() * one * A, one + B * C - C * B, one + K, one + (X * Y) - (X * Y).transposed, Blocks(((Zero("p", "p"), Y), (X, one)))]
            for other in ways:
                try:
                    self.assertIs(equal_traces(one, other), True, (str(one), str(other)))
                    self.assertIsNone(trace_parting(other, one))
                except TooRich as error:
                    self.assertEqual(error.limit, 16)
                    continue
                done += 1
                self.assert_equal_values(drawing, one, other)
        self.assertGreater(done, 200)

    def test_errors(self):
        for function in (equal_traces, trace_parting):
            for given in NO_FORMULAS:
                self.assert_given(NotAFormula, given, function, given, X)
                self.assert_given(NotAFormula, given, function, X, given)
                self.assert_given(NotAFormula, given, function, A, other=given)
            other = Letter("A", "n", "p")
            self.assert_error(Mismatch, (("n",), ("p",)), function, X, Y)
            self.assert_error(Mismatch, (("p",), ("n",)), function, A, Y)
            self.assert_error(Mismatch, (("n", "p"), ("p", "n")), function, Zero(("n", "p"), ("p", "n")), other)
            self.assert_error(Clash, ("A",), function, A * B, Letter("A", "n", "n") * Letter("B", "n", "n", about=1))
            self.assert_error(Clash, ("B",), function, A * B, Letter("B", "p", "p"))

    def test_too_rich(self):
        rich = chain(MANY[:25])
        for function in (equal_traces, trace_parting):
            self.assert_error(TooRich, (24,), function, rich, EYE)
            self.assert_error(TooRich, (24,), function, EYE * 3, rich)
            self.assert_error(TooRich, (24,), function, rich * 0, rich * 0)
            self.assert_error(Clash, ("L0",), function, rich, Letter("L0", "p", "p"))
            self.assert_error(Mismatch, (("n",), ("p",)), function, rich, X)
            # The ranks of the sums with the transposes count: 15 and 2 here, 17 and 0, 9 and 8.
            self.assert_error(TooRich, (16,), function, chain(MANY[:8]), S * S)
            self.assert_error(TooRich, (16,), function, S * S, chain(MANY[:8]))
            self.assert_error(TooRich, (16,), function, chain(MANY[:9]), EYE * 3)
            self.assert_error(TooRich, (16,), function, chain(MANY[:5]), chain(MANY[:4]) + S * S)
            self.assert_error(TooRich, (16,), function, chain(MANY[:12]), chain(MANY[:12]))
        for one, expected in ((chain(MANY[:8]), 15), (S * S, 2), (S, 1), (chain(MANY[:9]), 17), (chain(MANY[:5]), 9), (chain(MANY[:4]) + S * S, 8), (chain(MANY[:4]) + S, 7)):
            self.assertEqual(form(one + one.transposed).rank, expected)
        # The same ones with one less.
        self.assertIs(equal_traces(chain(MANY[:8]), S), False)
        self.assertIs(equal_traces(S * Ratio(1, 2), chain(MANY[:8])), False)
        self.assertIs(equal_traces(chain(MANY[:5]), chain(MANY[:4]) + S), False)
        self.assertIs(equal_traces(chain(MANY[:4]), chain(MANY[1:4] + MANY[:1])), True)
        # The sum with the transpose may be too large to be made.
        wide = B
        while wide.weight < 512:
            wide = wide + wide
        self.assertIs(equal_traces(wide, B * 512), True)
        self.assertIs(equal_traces(wide, wide.transposed), True)
        deep = B
        while deep.levels < 60:
            deep = deep.transposed
        self.assertIs(equal_traces(deep, B), True)
        long = Blocks(((Eye(("n",) * 16),),))
        self.assertIs(equal_traces(long, EYE * 16), True)


class TraceSumTest(TracesCase):
    def test_by_hand(self):
        a, b, s, k = [(name, False) for name in "ABSK"]
        x, xt = ("X", False), ("X", True)
        for text, word, expected in (
            ("A", (a,), "1"), ("A'", (a,), "1"), ("A", (("A", True),), "1"), ("B * B", (b, b), "2"), ("A * B", (b,), "1"), ("A * B", (a, b), "1"), ("A * B", (b, a), "1"), ("A * B", (a, a), "0"),
            ("X' * A * X", (x, xt), "2"), ("X' * A * X", (xt, x), "2"), ("S * S", (s, s), "4"), ("S", (s,), "2"), ("K * K", (k, k), "4"), ("K * B", (k, b), "1"), ("K * B", (k, ("B", True)), "-1"), ("K", (k,), "0"),
            ("inv(A)", (a,) * 3, "-3"), ("A * B - B * A", (a, b), "0"), ("(A * B) ** 2", (a, b, a, b), "2"), ("(A * B) ** 2", (b, a, b, a), "2"), ("1/3 * A * B * S", (a, b), "2/3"), ("A + B * X * X'", (xt, b, x), "1"),
            ("A * X * X'", (x, xt) * 5, "0"), ("blocks(A, X; X', X' * X)", (x, xt), "2"),
        ):
            found = trace_sum(of(text), word)
            self.assertIs(type(found), Ratio)
            self.assertEqual(str(found), expected, (text, word))
            self.assertEqual(trace_sum(word=word, formula=of(text)), found)

    def test_drawn_formulas(self):
        done = 0
        for one in drawn(300, 4, seed=135, most=8):
            if one.rows != one.columns:
                continue
            letters, known = reference.letters_of([one]), {}
            words = [word for word in reference.words(letters, 3 if len(letters) < 4 else 2) if is_closed(word, letters)]
            for word in words[:60]:
                done += 1
                self.assertEqual(reference.fraction(trace_sum(one, word)), sum_of(one, word, letters, known))
        self.assertGreater(done, 2000)

    def test_it_does_not_ask_for_the_rank(self):
        word = tuple((letter.name, False) for letter in MANY[:30])
        self.assertEqual(str(trace_sum(chain(MANY[:30]), word)), "1")
        self.assertEqual(str(trace_sum(chain(MANY[:30]), word[7:] + word[:7])), "1")

    def test_errors(self):
        a, x = ("A", False), ("X", False)
        for given in NO_FORMULAS:
            self.assert_given(NotAFormula, given, trace_sum, given, (a,))
        self.assert_error(Mismatch, (("n",), ("p",)), trace_sum, X, None)
        one = of("A * S * K + X * Y")
        wrong = (
            None, "", "A", (), (("A", False), ("C", False)), a, [a], ("A",), ((a,),), (["A", False],), (("A", 0),), (("A", None),), (("A", False, False),), (("A",),), (("B", False),), (("S", True),), (("K", True),),
            (("a", False),), (a, ("B", False)), (x,), (x, x), (x, a), (a, x), (x, ("Y", False), x), (x, ("Y", True)), (a, a, x, ("Y", True)), ((Stubborn(), False),), (("A", Stubborn()),), Stubborn(),
            (a, Stubborn()), {a: 1}, 1, True, (a, ("D", False)), (("", False),), ((b"A", False),),
        )
        for given in wrong:
            self.assert_given(InvalidWord, given, trace_sum, one, given)
        self.assert_given(InvalidWord, wrong[6], trace_sum, EYE, wrong[6])
        self.assert_error(InvalidWord, ((a,),), trace_sum, EYE, (a,))
        self.assert_error(InvalidWord, ((("D", False),),), trace_sum, of("A"), (("D", False),))


class GradientTest(TracesCase):
    def assert_gradient(self, drawing, one, letter, found):
        """The trace of G' H is the change of the trace in first order, for drawn matrices and several H."""
        sizes = {name: drawing.random.randint(1, 2) for name in one.sizes}
        tables = {x.name: drawing.table(x, sizes) for x in one.letters}
        try:
            changed = []
            for _ in range(3):
                direction = drawing.table(letter, sizes)
                changed.append((direction, reference.trace(firstorder.change(one, sizes, tables, letter.name, direction))))
        except reference.NoInverse:
            return False
        slope = reference.value(found, sizes, tables)
        for direction, expected in changed:
            self.assertEqual(reference.trace(reference.times(reference.flipped(slope), direction)), expected, (str(one), letter.name))
        if letter.symmetry != "plain":
            self.assertEqual(slope, reference.scaled(1 if letter.symmetry == "symmetric" else -1, reference.flipped(slope)))
        return True

    def test_by_hand(self):
        for text, name, expected in (
            ("A", "A", "eye(n)"), ("A'", "A", "eye(n)"), ("3 * A - B", "B", "-eye(n)"), ("A * B", "A", "B'"), ("B * A", "A", "B'"), ("A * B * C", "B", "A' * C'"), ("A * A", "A", "2 * A'"), ("A ** 3", "A", "3 * (A * A)'"),
            ("A ** 1", "A", "eye(n)"), ("A * A'", "A", "2 * A"), ("inv(A)", "A", "-inv(A')**2"), ("inv(A) * B", "A", "-inv(A') * B' * inv(A')"), ("X * X'", "X", "2 * X"), ("X' * X", "X", "2 * X"), ("X' * A * X", "X", "(A + A') * X"),
            ("X * Y", "Y", "X'"), ("Y * X", "X", "Y'"), ("X * D * X'", "D", "X' * X"), ("S", "S", "eye(n)"), ("S * B", "S", "1/2 * B + 1/2 * B'"), ("S * S * B", "S", "1/2 * (S * B + B' * S + B * S + S * B')"), ("K * B", "K", "1/2 * B' - 1/2 * B"), ("B * K'", "K", "1/2 * B - 1/2 * B'"),
            ("K * K", "K", "-2 * K"), ("K", "K", "zero(n; n)"), ("inv(S)", "S", "-inv(S) ** 2"), ("blocks(A, X; Y, D)", "D", "eye(p)"), ("blocks(A, X; Y, D)", "X", "zero(n; p)"), ("blocks(A, X; Y, D) ** 2", "X", "2 * Y'"),
            ("blocks(A, X; Y, D)[0, 0]", "X", "zero(n; p)"), ("inv(blocks(A, X; Y, D))[0, 0]", "A", "-inv(A - X * inv(D) * Y)'**2"), ("blocks(A, B; B, B)[0, 1] * C", "B", "C'"), ("A - A", "A", "zero(n; n)"),
            ("inv(inv(A) + B)", "B", "-inv((inv(A) + B)')**2"), ("A * B - B * A", "A", "zero(n; n)"),
        ):
            self.assertIs(same(gradient(formula=of(text), name=name), of(expected)), True, text)

    def test_drawn_formulas(self):
        drawing, done = Drawing(136), 0
        for one in drawn(400, 5, seed=137, most=14):
            if one.rows == one.columns:
                own = {str(x) for x in all_in(one) if x.kind == "inverse"}
                for letter in one.letters:
                    found = gradient(one, letter.name)
                    self.assertEqual((found.rows, found.columns), (letter.rows, letter.columns))
                    self.assertTrue(all(x in one.letters for x in found.letters))
                    self.assertTrue({*found.sizes} <= {*one.sizes})
                    # Only inverses of the formula stand in it, so it has a value wherever the formula has one.
                    self.assertTrue({str(x) for x in all_in(found) if x.kind == "inverse"} <= own)
                    done += self.assert_gradient(drawing, one, letter, found)
        self.assertGreater(done, 250)

    def test_the_derivative_of_the_trace(self):
        done = 0
        for one in few(drawn(300, 3, seed=138, most=5), 6):
            for letter in one.letters:
                step = Letter("H", letter.rows[0], letter.columns[0], symmetry=letter.symmetry)
                try:
                    self.assertIs(equal_traces(gradient(one, letter.name).transposed * step, derivative(one, letter.name, "H")), True)
                    done += 1
                except TooRich:
                    continue
        self.assertGreater(done, 60)

    def test_errors(self):
        for given in NO_FORMULAS:
            self.assert_given(NotAFormula, given, gradient, given, "A")
        self.assert_error(Mismatch, (("n",), ("p",)), gradient, X, "X")
        self.assert_error(Mismatch, (("n",), ("p",)), gradient, X, None)
        for given in NO_INTEGERS + ("B", "a", "A ", 1, A, ("A",)):
            self.assert_given(UnknownName, given, gradient, A, given)
        self.assert_error(UnknownName, ("A",), gradient, EYE, "A")

    def test_too_large(self):
        deep = A
        for _ in range(29):
            deep = deep.inverse()
        self.assert_error(TooLarge, (60,), gradient, deep, "A")
        wide = A
        while wide.weight < 256:
            wide = wide * wide
        self.assert_error(TooLarge, (1000,), gradient, wide, "A")
        # What stands around a part without the letter is not made, so it cannot be too large.
        heavy = chain((B,) * 7)
        while heavy.weight < 400:
            heavy = heavy * heavy
        self.assertEqual(gradient(A * (heavy * heavy), "A").weight, 896)

    def test_never_too_large_within_the_bound(self):
        done, drawing = 0, Drawing(139)
        one_letter = [(x,) for x in (S, K, B, A)]
        formulas = [x for letters in one_letter + [LETTERS] for x in drawn(900, 7, seed=140, letters=letters, most=8) if x.rows == x.columns and x.levels <= 8 and inverses_within(x) <= 2]
        for one in formulas:
            for letter in one.letters:
                found = gradient(one, letter.name)
                done += 1
                if drawing.random.random() < 0.1:
                    self.assert_gradient(drawing, one, letter, found)
        self.assertGreater(done, 500)
        column, row = Blocks(((S,), (S,))), Blocks(((S, S),))
        three = Blocks(((S,), (S,), (S,))) * Blocks(((S, S, S),))
        seven = ("n",) * 7
        sized = Blocks(((Eye(seven), Zero(seven, "n")), (Zero("n", seven), S.inverse() * (S + B).inverse())))
        for one in (
            ((column * row) ** 2)[0, 0].inverse().inverse(), (three[1, 1] * S * S).inverse().inverse(), (S ** 8).inverse().inverse(), (((S ** 2) ** 2) ** 2).inverse().inverse(),
            Blocks(((((column * row) ** 2)[0, 0].inverse(),),))[0, 0].inverse(), sized.inverse(), (S * S * S * S * S * S * S * S).inverse(),
            ((((S + S) + (S + S)) * ((S + S) + (S + S))).inverse() ** 1).inverse(),
        ):
            self.assertTrue(one.weight <= 8 and one.levels <= 9)
            found = gradient(one, "S")
            self.assertIsInstance(found, Formula)
            self.assert_gradient(drawing, one, S, found)


if __name__ == "__main__":
    unittest.main()
