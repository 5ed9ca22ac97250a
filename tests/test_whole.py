"""What the document promises over the whole program."""

import copy
import unittest

from checks import CheckedCase
from drawing import MANY, drawn
from matrixforms.certificates import certify, certify_rank, certify_relations
from matrixforms.changes import derivative, moved, substituted
from matrixforms.checker import accepts
from matrixforms.console import Console
from matrixforms.errors import AnswerError, MeetError, TooLarge
from matrixforms.forms import coefficient, degree, form, matters, terms
from matrixforms.formulas import Blocks, Eye, Letter
from matrixforms.matrices import Matrix
from matrixforms.ratios import Ratio
from matrixforms.readers import plain_reader
from matrixforms.reading import names, read
from matrixforms.relations import combination, relations
from matrixforms.sameness import commute, idempotent, inverses, orthogonal, parting, same, skew, symmetric
from matrixforms.schur import eliminated, part, schur
from matrixforms.sheets import Sheet
from matrixforms.solving import solve
from matrixforms.traces import equal_traces, gradient, trace_parting, trace_sum
from matrixforms.values import value
from rewriting import all_in

A = Letter("A", "n", "n", about=1)
B = Letter("B", "n", "n")
S = Letter("S", "n", "n", symmetry="symmetric", about=2)
X = Letter("X", "n", "p")
F = Blocks(((A + B, X), (X.transposed, Eye("p"))))
SQUARE = (A * B.transposed - Eye("n")) * S


def call(function, *arguments):
    """What a call returns, or the class and the attributes of its error."""
    try:
        return function(*arguments)
    except (AnswerError, MeetError) as error:
        return type(error), tuple(vars(error).values())


def solved(one, name):
    found = solve(one, name)
    return found.before, found.behind, found.remainder, found.answer


CALLS = (
    (substituted, F, {"A": B * S, "X": X * 2}), (moved, F, {"A": 3}), (derivative, F.inverse(), "X", "H"), (part, F, (1, 0, 1), (0,)), (schur, F, 1), (eliminated, F, 1), (equal_traces, SQUARE, SQUARE.transposed),
    (trace_parting, SQUARE, A * B), (trace_sum, SQUARE, (("A", False), ("B", True))), (gradient, SQUARE, "S"), (solved, A * X * 2 - B * X + X, "X"), (solved, X * X.transposed * X, "X"), (certify, SQUARE, SQUARE * 1), (certify, SQUARE, A),
    (certify_rank, F), (certify_relations, A, B, A * 2), (same, A, B), (parting, SQUARE, A), (relations, A, A * 3), (combination, A, B), (form, F), (degree, F), (matters, F, "B"), (names, str(F)), (read, str(SQUARE), (A, B, S)),
    (value, SQUARE, {"n": 1, "p": 2}, {"A": Matrix.eye(1), "B": Matrix.eye(1), "S": Matrix.eye(1)}), (coefficient, F, (("X", False),)), (commute, A, B), (inverses, A, A.inverse()), (accepts, *certify_rank(F)), (accepts, (), ()),
    (symmetric, SQUARE), (skew, SQUARE), (idempotent, SQUARE), (orthogonal, SQUARE), (lambda one, longest: list(terms(one, longest)), F, 3),
)


class WholeTest(CheckedCase):
    def test_equal_calls_return_equal_results_and_arguments_stay(self):
        for function, *arguments in CALLS:
            kept = [dict(x) if isinstance(x, dict) else x for x in arguments]
            texts = [str(x) for x in arguments]
            found = call(function, *arguments)
            self.assertEqual(found, call(function, *arguments), function)
            self.assertIs(type(found), type(call(function, *arguments)))
            self.assertEqual(arguments, kept)
            self.assertEqual([str(x) for x in arguments], texts)

    def test_readers_and_solutions_answer_alike(self):
        one, other = plain_reader(F), plain_reader(F)
        for word in ((), (("A", False),), (("X", False), ("X", True))):
            self.assertEqual(one.coefficient(word), other.coefficient(word))
        self.assertEqual((one.names, one.symbols, one.middle), (other.names, other.symbols, other.middle))
        self.assertEqual([one.start_row(k) for k in range(2)], [other.start_row(k) for k in range(2)])

    def test_what_is_returned_can_be_passed_on(self):
        done = 0
        for one in drawn(120, 4, seed=171, most=6):
            found = [derivative(one, letter.name, "H") for letter in one.letters]
            found += [part(one, (0,) * 3, (0,))]
            if one.rows == one.columns:
                found += [gradient(one, letter.name) for letter in one.letters]
                if len(one.rows) > 1:
                    found += [x for x in (call(schur, one, 1), call(eliminated, one, 1)) if not isinstance(x, tuple)]
            for letter in one.letters:
                if letter.symmetry == "plain" and (letter.rows, letter.columns) == (one.rows, one.columns):
                    four = call(solved, one, letter.name)
                    found += list(four) if len(four) == 4 else []
            for inner in found:
                done += 1
                self.assertEqual(read(str(inner), inner.letters), inner)
                for deep in all_in(inner)[:20]:
                    self.assertEqual(read(str(deep), deep.letters), deep)
                self.assertIsNotNone(call(certify, inner, inner * 1))
                self.assertIsNotNone(call(form, inner))
        self.assertGreater(done, 250)

    def test_certificates_of_certificates_parts(self):
        claim, certificate = certify_rank(F.inverse())
        for inner in certificate[:2] + certificate[2] + certificate[3]:
            self.assertIs(accepts(claim, inner), False)
        negative = tuple(tuple((-top, bottom) for top, bottom in row) for row in certificate[0])
        self.assertIs(accepts(claim, (negative, *certificate[1:])), True)
        self.assertIs(accepts(*copy.deepcopy((claim, certificate))), True)

    def test_sheets_at_the_limits(self):
        sheet, console = Sheet(), Console()
        sheet.do_all(("letter", "A", "n", "n", "plain", 1), ("define", "D1", "A ** 9"), ("define", "D2", "D1 ** 9"), ("define", "D3", "D2 ** 9"), ("define", "D4", "D3 + 2 * D2 ** 3 + D1 ** 3 + A"))
        self.assertEqual(sheet["D4"].weight, 1000)
        self.assert_error(TooLarge, (1000,), sheet.do, ("define", "D5", "D4 + A"))
        self.assert_error(TooLarge, (1000,), sheet.do, ("define", "D1", "A ** 9 + A"))
        sheet.do_all(*[("define", f"E{k}", f"E{k - 1}'" if k else "A") for k in range(60)])
        self.assertEqual(sheet["E59"].levels, 60)
        self.assert_error(TooLarge, (60,), sheet.do, ("define", "E60", "E59'"))
        self.assert_error(TooLarge, (60,), sheet.do, ("define", "E0", "2 * A"))
        sheet.do(("claim", "E59", "A'"))
        for line in ("letter A n n about 1", *[f"let E{k} = " + (f"inv(E{k - 1})" if k else "A") for k in range(60)], "claim E58 = A", "claim E59 = inv(A)"):
            self.assertEqual(console.say(line), "ok")
        self.assertEqual([console.say(line) for line in ("rank E59", "degree E58", "matters A E59", "test E58 = 2 * A", "test E57 = inv(A)")], ["1", "1", "yes", "unlike n=1 | A: 1", "same"])
        self.assert_error(TooLarge, (60,), console.say, "rank E59'")

    def test_questions_at_the_limits(self):
        side = ("n",) * 16
        entries = [[MANY[(i * j) % 4] * (i + 1) for j in range(16)] for i in range(16)]
        table = Blocks(tuple(tuple(one + Eye("n") * 50 if i == j else one for j, one in enumerate(row)) for i, row in enumerate(entries)))
        self.assertEqual((table.rows, table.weight), (side, 272))
        self.assertEqual(part(table, tuple(range(16)), tuple(range(16))).weight, 272)
        self.assertEqual(schur(table, 15).rows, ("n",))
        self.assertEqual(schur(table, 1).rows, ("n",) * 15)
        self.assertEqual(derivative(table, "L0", "H").rows, side)
        self.assertEqual(gradient(table, "L0").rows, ("n",))
        self.assertIs(equal_traces(table, table * 1), True)
        self.assertEqual(str(trace_sum(table, (("L0", False),))), "64")
        wide = B
        while wide.weight < 500:
            wide = wide + wide
        self.assertIs(same(derivative(wide, "B", "H"), Letter("H", "n", "n") * 512), True)
        self.assertIs(same(gradient(wide, "B"), Eye("n") * 512), True)
        self.assertIs(same(solve(wide - A, "B").answer, A * Ratio(1, 512)), True)
        self.assertIs(same(moved(wide, {"B": 5}) * 0, A * 0 - Letter("B", "n", "n", about=5) * 0), True)
        self.assertEqual(substituted(wide, {"B": S}).letters, (S,))


if __name__ == "__main__":
    unittest.main()
