import unittest
from itertools import islice
from random import Random

import reference
from checks import CheckedCase
from drawing import MANY, chain, drawn
from matrixforms import forms
from matrixforms.errors import InvalidSize, InvalidWord, NotAFormula, TooLarge, TooRich, UnknownName
from matrixforms.formulas import Blocks, Eye, Formula, Letter, Zero
from matrixforms.forms import Form, coefficient, degree, form, letters_in, matters, terms
from matrixforms.machines import plain_machine
from matrixforms.matrices import Matrix
from matrixforms.ratios import Ratio
from matrixforms.reading import read
from matrixforms.readers import Reader, plain_reader
from matrixforms.reducing import reduced
from rewriting import Rewriting, all_in
from samples import NO_INTEGERS, Stubborn

A = Letter("A", "n", "n", about=1)
B = Letter("B", "n", "n")
K = Letter("K", "n", "n", symmetry="skew")
S = Letter("S", "n", "n", symmetry="symmetric", about=2)
X = Letter("X", "n", "p")
Y = Letter("Y", "p", "n")


class FormCase(CheckedCase):
    def assert_written(self, one):
        """A formula with this form is written, as the interface says of it."""
        states, e = one.rank, len(one.reader.symbols)
        r, c = len(one.reader.rows), len(one.reader.columns)
        try:
            found = one.written()
        except TooLarge as error:
            self.assertIn(error.limit, (16, 60, 1000))
            allowed = (states + r) * (states + c) * (2 * e + 1) <= 1000 and e <= 20 and states + r <= 16 and states + c <= 16
            self.assertFalse(allowed)
            return False
        self.assertIsInstance(found, Formula)
        self.assertEqual(form(found), one)
        names = [letter.name for letter in one.letters]
        self.assertTrue(all(letter in one.letters for letter in found.letters), names)
        inverses = [part for part in all_in(found) if part.kind == "inverse"]
        self.assertLessEqual(len(inverses), 1)
        for part in inverses:
            self.assertEqual(part.middle, Matrix.eye(len(part.rows)))
            self.assertFalse([inner for inner in all_in(part.parts[0]) if inner.kind == "inverse"])
        return True


class KeptTest(FormCase):
    def test_interface(self):
        self.assert_interface(forms, {
            "Form": ("reader", "rank", "kept", "letters", "written", "__eq__"), "form": (), "coefficient": (), "terms": (), "degree": (), "matters": (),
        })

    def test_by_hand(self):
        one = form(X * (Eye("p") + X.transposed * X).inverse())
        self.assert_alike(one.rank, 2)
        self.assert_alike(one.kept, (((), 0), ((("X", False),), 0)))
        self.assert_alike(one.letters, (X,))
        self.assertIs(type(one.reader), Reader)
        self.assertEqual(one.reader.names, ("n", "p"))
        self.assertEqual(one.reader.symbols, (("X", False), ("X", True)))
        self.assertEqual(one.reader.move_row(1, ("X", True)), (Ratio(-1), Ratio(0)))
        whole = form(Blocks(((A, B), (A * 2, B * 2), (B * K, Zero("n", "n")))))
        self.assert_alike(whole.kept, (((), 0), ((), 2), ((("B", False),), 2)))
        self.assertEqual([whole.reader.start_row(k) for k in range(3)], [tuple(map(Ratio, row)) for row in ((1, 0, 0), (2, 0, 0), (0, 1, 0))])
        self.assertEqual(whole.letters, (A, B, K))
        self.assertEqual(str(whole.reader.middle), "1 0; 2 0; 0 0")

    def test_transposes_can_have_another_rank(self):
        row = Blocks(((A, B, K),))
        self.assertEqual((form(row).rank, form(row.transposed).rank), (1, 3))

    def test_kept_pairs_of_drawn_formulas(self):
        ranks = set()
        checked = 0
        for one in drawn(700, 5, seed=61, most=8):
            letters = reference.letters_of([one])
            found = form(one)
            reach = found.rank
            if len(letters) > 2 or len(list(islice(reference.words(letters, max(reach, 1)), 60))) ** 2 * len(one.rows) > 2500:
                continue
            tails = reference.Tails(one, max(reach, 1), reach)
            self.assert_alike(found.kept, tuple(tails.kept))
            self.assert_alike(found.rank, len(tails.kept))
            names = tuple(reference.ends_of(word[-1], letters)[1] if word else one.rows[i] for word, i in tails.kept)
            self.assert_alike(found.reader.names, names)
            self.assertEqual(len(found.reader), found.rank)
            for i in range(len(one.rows)):
                self.assertEqual([reference.fraction(x) for x in found.reader.start_row(i)], tails.start(i))
            for state in range(reach):
                for y in reference.symbols(letters):
                    self.assertEqual([reference.fraction(x) for x in found.reader.move_row(state, y)], tails.move(state, y))
                    self.assertEqual([reference.fraction(x) for x in found.reader.end_row(state, y)], tails.end(state, y))
            ranks.add(found.rank)
            checked += 1
        self.assertGreater(checked, 300)
        self.assertGreaterEqual(ranks, {0, 1, 2, 3})

    def test_a_form_has_the_sides_and_the_middle(self):
        for one in drawn(60, 4, seed=62, most=20):
            found = form(formula=one).reader
            self.assertEqual((found.rows, found.columns, found.middle), (one.rows, one.columns, one.middle))


class EqualityTest(FormCase):
    def test_formulas_written_in_several_ways(self):
        rewriting = Rewriting(Random(63))
        others = 0
        for one in drawn(300, 4, seed=64, most=10):
            found = form(one)
            for _ in range(3):
                other = rewriting.rewritten(one)
                others += other != one
                try:
                    self.assertEqual(form(other), found, (str(one), str(other)))
                except TooRich:
                    self.assertGreater(other.weight, 24)
                self.assertFalse(found != form(one))
        self.assertGreater(others, 500)

    def test_from_the_plain_reader_alone(self):
        # The parts of a formula are reduced one after another; all at once must give the same.
        for one in drawn(150, 6, seed=69, most=50):
            if len(plain_reader(one)) <= 120:
                machine, kept = reduced(plain_machine(one))
                self.assertTrue(form(one) == Form(machine, kept, letters_in(machine, one.letters)))

    def test_identities(self):
        letters = (
            A, B, K, S, X, Y, Letter("C", "p", "p", about=1), Letter("D", "p", "p", about=3), Letter("E", "n", "n", about=Ratio(1, 2)),
            Letter("F", "n", "n", about=-1),
        )
        for left, right in (
            ("inv(A + X * C * Y)", "inv(A) - inv(A) * X * inv(inv(C) + Y * inv(A) * X) * Y * inv(A)"),
            ("inv(eye(n) + X * Y) * X", "X * inv(eye(p) + Y * X)"), ("X' * inv(eye(n) + X * X')", "inv(eye(p) + X' * X) * X'"),
            ("inv(A * E)", "inv(E) * inv(A)"), ("inv(A)'", "inv(A')"), ("inv(inv(A))", "A"), ("inv(A) - inv(F)", "inv(A) * (F - A) * inv(F)"),
            ("inv(A + E)", "inv(A) * inv(inv(A) + inv(E)) * inv(E)"), ("A - inv(inv(A) + inv(inv(E) - A))", "A * E * A"),
            ("(A + B) * (A - B)", "A * A - A * B + B * A - B * B"), ("(A * B * K)'", "-K * B' * A'"), ("(A + B) ** 3", "(A + B) * (A + B) ** 2"),
            ("(eye(n) + K) * inv(eye(n) - K) * ((eye(n) + K) * inv(eye(n) - K))'", "eye(n)"), ("S'", "S"), ("K'", "-K"), ("A''", "A"),
            ("inv(blocks(A, X; Y, D))[0, 0]", "inv(A - X * inv(D) * Y)"), ("inv(blocks(A, X; Y, D))[1, 1]", "inv(D - Y * inv(A) * X)"),
            ("inv(blocks(A, X; Y, D))[0, 1]", "-inv(A) * X * inv(D - Y * inv(A) * X)"), ("blocks(A, X; Y, D)'", "blocks(A', Y'; X', D')"),
            ("inv(blocks(A, X; zero(p; n), D))", "blocks(inv(A), -inv(A) * X * inv(D); zero(p; n), inv(D))"),
            ("blocks(A, B; B, A) ** 2", "blocks(A * A + B * B, A * B + B * A; A * B + B * A, A * A + B * B)"),
            ("inv(eye(n) - B) * (eye(n) - B ** 4)", "eye(n) + B + B ** 2 + B ** 3"), ("2 * (1/2 * A - B)", "A - 2 * B"), ("A - A", "zero(n; n)"),
            ("inv(A + B) * (A + B)", "eye(n)"), ("inv(A) * A * X * Y - X * Y", "zero(n; n)"), ("A * inv(A - B) - eye(n)", "B * inv(A - B)"),
            ("inv(A' * A)", "inv(A) * inv(A)'"), ("inv(blocks(eye(n), B; zero(n; n), eye(n))) ** 3", "blocks(eye(n), -3 * B; zero(n; n), eye(n))"),
        ):
            one, other = read(left, letters), read(right, letters)
            self.assertEqual(form(one), form(other), left)
            for more in (other * 2, other + Eye(other.rows) * Ratio(1, 10 ** 20) if other.rows == other.columns else other * 3):
                self.assertEqual(form(more) == form(one), more.middle == one.middle and form(more).rank == 0, left)

    def test_formulas_that_differ_by_little(self):
        nearly = Ratio(10 ** 39, 10 ** 39 + 1)
        for one, other in (
            (A, A * nearly), (A * B, B * A), (A * B, A * B * nearly), (A, A.transposed), (S, S.transposed * nearly), (K, K.transposed), (X, X * -1),
            ((Eye("n") + A * B * A).inverse(), (Eye("n") + A * B * A.transposed).inverse()),
            (chain(MANY[:20]), chain(MANY[:20]) * nearly), (chain(MANY[:20]), chain(MANY[:19] + MANY[20:21])), (A + B ** 9 * nearly, A + B ** 9),
            (Blocks(((A, B),)), Blocks(((B, A),))), (A ** 5, A ** 4), (Eye("n"), Eye("n") * nearly), (A, Letter("A", "n", "n", about=2)),
            (A, Letter("A", "n", "n", about=1, symmetry="symmetric")), (X, Letter("X", "n", "q")), (B, Letter("C", "n", "n")),
            # Only the moves, the starts, the ends or the middle differ.
            ((Eye("n") - B).inverse() * B, (Eye("n") - B * 2).inverse() * B), (Blocks(((B,), (B * 2,))), Blocks(((B,), (B * 3,)))),
            (Blocks(((B, B * 2),)), Blocks(((B, B * 3),))), (B + Eye("n"), B + Eye("n") * 2), (B, B + Eye("n")),
            (Zero("n", "p"), Zero("p", "n")), (Zero("n", "n"), Zero(("n", "n"), "n")), (A, A * Eye("n") + B * B * Ratio(1, 10 ** 39)),
        ):
            self.assertFalse(form(one) == form(other), (str(one), str(other)))
            self.assertTrue(form(one) != form(other))

    def test_equal_forms(self):
        self.assertTrue(form(A) == form(Letter("A", "n", "n", about=Ratio(2, 2))))
        self.assertTrue(form(A - A) == form(B * Zero("n", "n")))
        self.assertTrue(form(Eye("n")) == form(A * A.inverse()))
        self.assertTrue(form(A))
        self.assertTrue(form(Zero("n", "n")))

    def test_no_other_value_is_equal(self):
        one = form(A)
        for other in NO_INTEGERS + (A, one.reader, one.kept, one.rank, str(one)):
            self.assertIs(one == other, False)
            self.assertIs(one != other, True)
        self.assertIs(one == Stubborn(), False)

    def test_all_that_two_forms_have_counts(self):
        machine, kept = reduced(plain_machine(A * B))
        self.assertTrue(form(A * B) == Form(machine, kept, (A, B)))
        self.assertFalse(form(A * B) == Form(machine, kept[:1], (A, B)))
        self.assertFalse(form(A * B) == Form(machine, kept, (A, Letter("B", "n", "n", about=5))))

    def test_letters_that_cancel(self):
        one = form(A * B - A * B + X * Y * 0 + K)
        self.assertEqual((one.letters, one.reader.symbols), ((K,), (("K", False),)))
        self.assertEqual(form(A + B - A).letters, (B,))
        self.assertEqual(form(S * S.inverse()).letters, ())
        self.assertEqual(form((A.transposed * B)).reader.symbols, (("A", True), ("B", False)))

    def test_every_symbol_stands_in_a_word(self):
        for one in drawn(80, 4, seed=65, most=10):
            found = form(one)
            letters = reference.letters_of([one])
            shown = set()
            for word, _ in terms(one, min(2 * found.rank, 4)):
                shown |= set(word)
            self.assertTrue(shown <= set(found.reader.symbols))
            if found.rank <= 2:
                self.assertEqual(shown, set(found.reader.symbols))
            self.assertEqual([letter.name for letter in found.letters], sorted({y[0] for y in found.reader.symbols}))
            self.assertTrue(all(letters[letter.name] == letter for letter in found.letters))


class RichTest(FormCase):
    def test_the_greatest_rank(self):
        for count in (1, 2, 23, 24):
            self.assertEqual(form(chain(MANY[:count])).rank, count)
        rich = chain(MANY[:25])
        most = chain(MANY[:24])
        for call in (form, lambda one: list(terms(one, 1)), degree, lambda one: matters(one, "L0")):
            self.assert_error(TooRich, (24,), call, rich)
            call(most)

    def test_ranks_of_many_kinds(self):
        most = chain(MANY[:24])
        for one in (most.transposed.transposed, (Eye("n") + most).inverse(), most * 2, most - most * 3, Blocks(((most,),))[0, 0]):
            self.assertEqual(form(one).rank, 24, str(one)[:40])
        self.assertEqual(form(chain(MANY[:10]) + chain(MANY[12:26])).rank, 23)
        self.assert_error(TooRich, (24,), form, chain(MANY[:10]) + chain(MANY[12:28]))
        rows = [chain(MANY[8 * k:8 * k + 8]) for k in range(4)]
        self.assertEqual(form(Blocks(((rows[0],), (rows[1],), (rows[2],)))).rank, 24)
        self.assert_error(TooRich, (24,), form, Blocks(((rows[0],), (rows[1],), (rows[2],), (A,))))
        self.assertEqual(form(Blocks(((rows[0], rows[0]), (rows[1], rows[1] * 2)))).rank, 16)
        square = Blocks(tuple(tuple(MANY[(3 * i + j) % 40] for j in range(16)) for i in range(16)))
        self.assertEqual(form(square).rank, 16)
        self.assertEqual(form(square.transposed).rank, 16)
        self.assert_error(TooRich, (24,), form, square * square)

    def test_a_part_alone_is_too_rich(self):
        rich = chain(MANY[:25])
        whole = Blocks(((rich, A),))
        for one in (
            rich * 0, rich - rich, whole[0, 1], Zero("n", "n") * rich, rich * Zero("n", "n"), (rich * 0).transposed, (Eye("n") + rich * 0).inverse(),
            (rich * 0) ** 2, Blocks(((A, rich * 0),)), rich + rich * -1, (rich * 0 + A) ** 3,
        ):
            self.assert_error(TooRich, (24,), form, one)
            self.assert_error(TooRich, (24,), degree, one)
        # The sum of two formulas that are not too rich can be.
        one, other = chain(MANY[:20]), chain(MANY[15:35])
        self.assert_error(TooRich, (24,), form, (one + other) * 0)
        self.assertEqual(form(one * 0 + other * 0).rank, 0)

    def test_powers(self):
        def path(*parts):
            """A formula whose powers have these parts one behind the other, and are zero in the end."""
            size = len(parts) + 1
            zero = Zero("n", "n")
            return Blocks(tuple(tuple(parts[i] if j == i + 1 else zero for j in range(size)) for i in range(size)))

        self.assertEqual(form(chain(MANY[:12]) ** 2).rank, 24)
        self.assert_error(TooRich, (24,), form, chain(MANY[:13]) ** 2)
        self.assertEqual(form(MANY[0] ** 9).rank, 9)
        self.assert_error(TooRich, (24,), form, (MANY[0] ** 9) ** 3)
        self.assertEqual(form((MANY[0] ** 8) ** 3).rank, 24)
        # The square is too rich, the third and the fourth power are not; only the power itself and A count.
        one = path(chain(MANY[:8]), chain(MANY[8:16]), chain(MANY[16:24]))
        self.assertEqual(form(one).rank, 24)
        self.assert_error(TooRich, (24,), form, one ** 2)
        self.assertEqual(form(one ** 3).rank, 24)
        self.assertEqual(form(one ** 4).rank, 0)
        self.assertEqual(form(one ** 9).rank, 0)
        self.assert_error(TooRich, (24,), form, (one * one) * one)
        self.assert_error(TooRich, (24,), form, (one ** 2) ** 2)
        self.assert_error(TooRich, (24,), form, path(chain(MANY[:25]), A) ** 3)

    def test_coefficient_of_what_is_too_rich(self):
        word = tuple((f"L{k}", False) for k in range(40))
        self.assertEqual(str(coefficient(chain(MANY), word)), "1")
        self.assertEqual(str(coefficient(chain(MANY), word[:39])), "0")
        self.assertEqual(str(coefficient(chain(MANY) * Ratio(2, 3) + A, ())), "1")
        self.assertEqual(len(plain_reader(chain(MANY))), 40)

    def test_at_the_limits_of_formulas(self):
        letters = [Letter(f"M{k}", "n", "n", about=k % 3) for k in range(500)]
        rest = letters + [letter.transposed for letter in letters]
        while len(rest) > 1:
            rest = [rest[k] + rest[k + 1] if k + 1 < len(rest) else rest[k] for k in range(0, len(rest), 2)]
        while rest[0].levels < 60:
            rest = [rest[0] * Ratio(-1)]
        self.assertEqual((rest[0].weight, rest[0].levels), (1000, 60))
        found = form(rest[0])
        self.assertEqual((found.rank, len(found.letters), len(found.reader.symbols)), (1, 500, 1000))
        self.assertEqual((degree(rest[0]), matters(rest[0], "M499"), len(list(terms(rest[0], 7)))), (1, True, 1001))
        self.assert_error(TooLarge, (1000,), found.written)


class WrittenTest(FormCase):
    def test_drawn_formulas(self):
        written = 0
        for one in drawn(250, 5, seed=66, most=12):
            try:
                written += self.assert_written(form(one))
            except TooRich:
                continue
        self.assertGreater(written, 200)

    def test_at_the_limits(self):
        for one in (
            chain(MANY[:4]), chain(MANY[:6]), chain(MANY[:15]), chain(MANY[:16]), chain(MANY[:17]), chain(MANY[:24]), Eye(("n",) * 16), Zero("n", "p"), K,
            (Eye(("n",) * 4) + Blocks(tuple(tuple(MANY[4 * i + j] for j in range(4)) for i in range(4)))).inverse(),
            Blocks((MANY[:16],)), Blocks((MANY[:16],)).transposed, Blocks(tuple((letter,) for letter in MANY[:15])) + Zero(("n",) * 15, "n"),
            (Eye("n") + K * S.inverse() * A).inverse() * X, Blocks(((A, X), (Y, Eye("p")))) ** 2, Blocks(((A, X), (Y, Eye("p")))) * Ratio(-7, 3),
            X.transposed * A.inverse() * X, (X * Y) ** 3, Zero(("n", "p"), ("p", "n", "q")), (Eye("n") - B).inverse(), A.transposed * S,
        ):
            self.assert_written(form(one))
        self.assertTrue(self.assert_written(form(chain(MANY[:4]))))
        # (4 + 1) * (4 + 1) * (2 * e + 1) is at most 1000 for 19 symbols.
        wide = (A + B) * (MANY[0] + MANY[1] + MANY[2] + MANY[3] + MANY[4]) * (K + S + MANY[5] + MANY[6]) * sum(MANY[8:15], MANY[7])
        self.assertEqual((form(wide).rank, len(form(wide).reader.symbols)), (4, 19))
        self.assertTrue(self.assert_written(form(wide)))


class TermsTest(FormCase):
    def test_terms_of_drawn_formulas(self):
        for one in drawn(150, 5, seed=67, most=10):
            letters, known = reference.letters_of([one]), {}
            if len(letters) > 3:
                continue
            expected = [(word, reference.coefficient(one, word, letters, known)) for word in reference.words(letters, 3)]
            expected = [pair for pair in expected if not reference.is_zero(pair[1])]
            for longest in (0, 1, 2, 3):
                found = list(terms(one, longest))
                self.assert_alike([word for word, _ in found], [word for word, _ in expected if len(word) <= longest])
                self.assertTrue(all(type(pair) is tuple and type(pair[1]) is Matrix for pair in found))
                self.assertEqual([reference.table_of(worth) for _, worth in found], [worth for word, worth in expected if len(word) <= longest])

    def test_by_hand(self):
        x = ("X", False)
        found = [(word, str(worth)) for word, worth in terms((Eye("n") + X * Y).inverse(), 4)]
        y = ("Y", False)
        self.assertEqual(found, [((), "1"), ((x, y), "-1"), ((x, y, x, y), "1")])
        self.assertEqual([(word, str(worth)) for word, worth in terms(longest=9, formula=Blocks(((B, X),)))], [((("B", False),), "1 0"), ((x,), "0 1")])
        self.assertEqual(list(terms(A - A, 5)), [])
        self.assertEqual([word for word, _ in terms(B * A + A * B, 2)], [(("B", False),), (("A", False), ("B", False)), (("B", False), ("A", False))])

    def test_one_after_another(self):
        endless = terms((Eye("n") - A * Ratio(1, 2) - B).inverse(), 10 ** 30)
        words = [word for word, _ in islice(endless, 40)]
        expected = [word for word in reference.words({"A": A, "B": B}, 5) if not any(turned for _, turned in word)][:40]
        self.assertEqual(words, expected)
        self.assertEqual(len(list(terms(A ** 3, 10 ** 30))), 4)

    def test_errors(self):
        for given in NO_INTEGERS + (1, "A"):
            self.assert_given(NotAFormula, given, lambda: next(terms(given, None)))
        for given in NO_INTEGERS + (-1, Ratio(1), -(10 ** 30)):
            self.assert_given(InvalidSize, given, lambda: next(terms(A, given)))
            self.assert_given(InvalidSize, given, lambda: next(terms(chain(MANY), given)))
        self.assert_error(TooRich, (24,), lambda: next(terms(chain(MANY), 0)))


class QuestionsTest(FormCase):
    def test_degree(self):
        nilpotent = Blocks(((Zero("n", "n"), B), (Zero("n", "n"), Zero("n", "n"))))
        for one, expected in (
            (A, 1), (Eye("n"), 0), (Zero("n", "p"), 0), (A - A, 0), (A * B, 2), (A * B - B * A, 2), (A ** 9, 9), (A.inverse(), None), (A * A.inverse(), 0),
            ((A + B) ** 2 - A * B - B * A - B * B, 2), (A.inverse() - A.inverse(), 0), (X * Y * X + X, 3), (X.transposed, 1), (A * 0, 0),
            ((Eye(("n", "n")) + nilpotent).inverse(), 1), (A.inverse() * A * B, 1), ((Eye("n") - B).inverse() * (Eye("n") - B ** 5), 4),
            (chain(MANY[:24]), 24), ((Eye("n") + X * Y).inverse(), None), (Blocks(((A, A ** 3), (Eye("n"), A.inverse()))), None),
            (Blocks(((A, A ** 3), (Eye("n"), A.inverse())))[0, 1], 3), ((Eye("n") + K).inverse(), None),
        ):
            self.assert_alike(degree(one), expected)
            self.assert_alike(degree(formula=one), expected)

    def test_degree_of_drawn_formulas(self):
        found = set()
        for one in drawn(300, 5, seed=68, most=9):
            letters, known = reference.letters_of([one]), {}
            rank = form(one).rank
            words = list(islice(reference.words(letters, 2 * rank), 600))
            if len(words) < 600:
                # If there are words longer than the rank at all, then also such as are at most twice as long.
                longest = max([len(word) for word in words if not reference.is_zero(reference.coefficient(one, word, letters, known))], default=0)
                self.assert_alike(degree(one), None if longest > rank else longest)
                found.add(degree(one))
        self.assertGreaterEqual(found, {None, 0, 1, 2})

    def test_matters(self):
        for one, name, expected in (
            (A, "A", True), (A * B, "B", True), (A - A, "A", False), (A + B - A, "A", False), (A + B - A, "B", True), (A * 0, "A", False),
            (A * A.inverse() + B, "A", False), (X.transposed, "X", True), (K + K.transposed, "K", False), (S + S.transposed, "S", True),
            (S - S.transposed, "S", False), (Blocks(((A, B),))[0, 0], "B", False), (A * Zero("n", "n") * B, "B", False),
            ((Eye("n") + X * Y).inverse() * X, "Y", True), (chain(MANY[:24]), "L23", True), (A ** 2 - A * A + B ** 2, "A", False),
        ):
            self.assert_alike(matters(one, name), expected)
            self.assert_alike(matters(name=name, formula=one), expected)

    def test_they_do_not_depend_on_the_numbers(self):
        for about in (0, 1, Ratio(-7, 2)):
            moved = Letter("A", "n", "n", about=about)
            one = moved * B * moved - B
            self.assertEqual((form(one).rank, degree(one), matters(one, "A")), (form(A * B * A - B).rank, 3, True))

    def test_errors(self):
        for given in NO_INTEGERS + (1, "A", form(A), A.middle):
            for call in (form, degree):
                self.assert_given(NotAFormula, given, call, given)
            self.assert_given(NotAFormula, given, matters, given, "A")
            self.assert_given(NotAFormula, given, matters, given, None)
        for given in NO_INTEGERS + (1, "B", "a", "", A, ("A",)):
            self.assert_given(UnknownName, given, matters, A, given)
            self.assert_given(UnknownName, given, matters, chain(MANY), given)
        self.assert_error(TooRich, (24,), matters, chain(MANY), "L1")
        self.assert_given(InvalidWord, None, coefficient, A, None)


if __name__ == "__main__":
    unittest.main()
