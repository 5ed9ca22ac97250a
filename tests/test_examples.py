"""The examples that stand in the interface, module by module."""

import doctest
import unittest

EXAMPLES = {
    "matrices": r'''
>>> from matrixforms.matrices import Matrix
>>> from matrixforms.ratios import Ratio
>>> one = Matrix.read("1 2; 3 4")
>>> list(map(str, [one * one, one.inverse(), one.transposed, one[1, 0], one.trace(), Matrix.eye(2) - one])) + [repr(one * Ratio(1, 2))]
['7 10; 15 22', '-2 1; 3/2 -1/2', '1 3; 2 4', '3', '5', '0 -2; -3 -3', "Matrix('1/2 1; 3/2 2')"]
''',
    "formulas": r'''
>>> from matrixforms.formulas import Blocks, Eye, Letter, Zero
>>> x = Letter("X", "n", "p")
>>> f = x * (Eye("p") + x.transposed * x).inverse()
>>> a = Letter("A", "n", "n", symmetry="symmetric", about=1)
>>> g = Blocks(((a, x), (Zero("p", "n"), Eye("p") * 2)))
>>> [str(f), f.rows, f.columns, f.weight, f.levels, str(f.middle), f.parts[1].kind]
["(X * inv((eye(p) + (X' * X))))", ('n',), ('p',), 4, 6, '0', 'inverse']
>>> [str(g), g.rows, str(g.middle), repr((g ** 2)[0, 1]), g.sizes]
['blocks(A, X; zero(p; n), (2 * eye(p)))', ('n', 'p'), '1 0; 0 2', "Formula('(blocks(A, X; zero(p; n), (2 * eye(p))) ** 2)[0, 1]')", ('n', 'p')]
''',
    "reading": r'''
>>> from matrixforms.formulas import Letter
>>> from matrixforms.reading import names, read
>>> x, a = Letter("X", "n", "p"), Letter("A", "n", "n", about=1)
>>> [str(read("-X'*inv(A)**2 + 1/2*X'", (x, a))), names("inv(B2) - A * (B2 + C)")]
["((-1 * (X' * (inv(A) ** 2))) + (1/2 * X'))", ('B2', 'A', 'C')]
''',
    "values": r'''
>>> from matrixforms.formulas import Letter
>>> from matrixforms.matrices import Matrix
>>> from matrixforms.reading import read
>>> from matrixforms.values import value
>>> f = read("X * inv(eye(p) + X' * X)", (Letter("X", "n", "p"),))
>>> [str(value(f, {"n": 2, "p": 1}, {"X": Matrix.read("1; 2")})), str(value(f.transposed * f, {"n": 1, "p": 2}, {"X": Matrix.read("1 -1")}))]
['1/6; 1/3', '1/9 -1/9; -1/9 1/9']
''',
    "forms": r'''
>>> from matrixforms.formulas import Eye, Letter
>>> from matrixforms.forms import coefficient, degree, form, matters, terms
>>> x = Letter("X", "n", "p")
>>> f = x * (Eye("p") + x.transposed * x).inverse()
>>> one = form(f)
>>> [one.rank, one.kept, one.reader.names, str(one.reader.move_row(1, ("X", True))), degree(f), degree(f - f), matters(f - f, "X")]
[2, (((), 0), ((('X', False),), 0)), ('n', 'p'), '(Ratio(-1, 1), Ratio(0, 1))', None, 0, False]
>>> [str(coefficient(f, (("X", False), ("X", True), ("X", False)))), len(list(terms(f, 6))), form((Eye("n") + x * x.transposed).inverse() * x) == one]
['-1', 3, True]
''',
    "sameness": r'''
>>> from matrixforms.formulas import Letter
>>> from matrixforms.reading import read
>>> from matrixforms.sameness import parting, same, symmetric
>>> a, b = Letter("A", "n", "n", about=1), Letter("B", "n", "n")
>>> letters = (a, b, Letter("U", "n", "p"), Letter("V", "p", "n"), Letter("C", "p", "p", about=1))
>>> left = read("inv(A + U * C * V)", letters)
>>> right = read("inv(A) - inv(A) * U * inv(inv(C) + V * inv(A) * U) * V * inv(A)", letters)
>>> [same(left, right), symmetric(b + b.transposed), symmetric(b * b)]
[True, True, False]
>>> found = parting(b * a, a * b)
>>> [found.word, found.divisor, found.sizes, str(found.matrices["A"]), str(found.matrices["B"]), str(found.left), str(found.right)]
[(('A', False), ('B', False)), 1, {'n': 3}, '1 1 0; 0 1 0; 0 0 1', '0 0 0; 0 0 1; 0 0 0', '0 0 0; 0 0 1; 0 0 0', '0 0 1; 0 0 1; 0 0 0']
''',
    "relations": r'''
>>> from matrixforms.formulas import Eye, Letter
>>> from matrixforms.relations import combination, relations
>>> a, b = Letter("A", "n", "n"), Letter("B", "n", "n")
>>> basis = relations((a + b) ** 2, a * a + b * b, a * b, b * a, b * a * 2)
>>> [list(map(str, basis[0])), list(map(str, basis[1])), len(basis)]
[['1', '-1', '-1', '0', '-1/2'], ['0', '0', '0', '1', '-1/2'], 2]
>>> [list(map(str, combination((Eye("n") + a) * (Eye("n") - a), a * a, Eye("n"), a))), combination(a, b)]
[['-1', '1', '0'], None]
''',
    "changes": r'''
>>> from matrixforms.changes import derivative, moved, substituted
>>> from matrixforms.formulas import Letter
>>> from matrixforms.sameness import same
>>> a, h = Letter("A", "n", "n", about=1), Letter("H", "n", "n")
>>> f = a.inverse() * a.transposed
>>> slope = a.inverse() * h.transposed - a.inverse() * h * f
>>> [same(derivative(f, "A", "H"), slope), str(substituted(f, {"A": a + h})), str(moved(f, {"A": -2}).middle)]
[True, "(inv((A + H)) * (A + H)')", '1']
''',
    "schur": r'''
>>> from matrixforms.formulas import Blocks, Inverse, Letter
>>> from matrixforms.sameness import same
>>> from matrixforms.schur import eliminated, part, schur
>>> a, b = Letter("A", "n", "n", about=1), Letter("B", "n", "p")
>>> c, d = Letter("C", "p", "n"), Letter("D", "p", "p", about=2)
>>> f = Blocks(((a, b), (c, d)))
>>> [same(schur(f, 1), d - c * a.inverse() * b), same(eliminated(f, 1), Inverse(f)), same(part(f ** 2, (1,), (0,)), c * a + d * c)]
[True, True, True]
''',
    "traces": r'''
>>> from matrixforms.formulas import Letter
>>> from matrixforms.sameness import same
>>> from matrixforms.traces import equal_traces, gradient, trace_parting, trace_sum
>>> x, a = Letter("X", "n", "p"), Letter("A", "n", "n", about=1)
>>> f = x.transposed * a * x
>>> [equal_traces(f, a.transposed * x * x.transposed), equal_traces(f, f + f), same(gradient(f, "X"), (a + a.transposed) * x), same(gradient(a.inverse(), "A"), -(a.transposed.inverse() ** 2))]
[True, False, True, True]
>>> [str(trace_parting(a, a * 2)), trace_parting(f, f + f)[0], str(trace_sum(f, (("X", False), ("X", True))))]
["('n', Ratio(1, 1), Ratio(2, 1))", (('X', False), ('X', True)), '2']
''',
    "solving": r'''
>>> from matrixforms.formulas import Letter
>>> from matrixforms.ratios import Ratio
>>> from matrixforms.sameness import same
>>> from matrixforms.solving import solve
>>> a, b, x = Letter("A", "n", "n", about=2), Letter("B", "n", "p"), Letter("X", "n", "p")
>>> found = solve(a * x * 3 - b, "X")
>>> [same(found.answer, a.inverse() * b * Ratio(1, 3)), same(found.before * 2, a), str(found.behind.middle)]
[True, True, '6']
''',
    "sheets": r'''
>>> from matrixforms.sheets import Sheet
>>> sheet = Sheet()
>>> sheet.do_all(("letter", "A", "n", "n", "symmetric", 1), ("letter", "X", "n", "p", "plain", 0))
>>> sheet.do(("define", "G", "X' * inv(A) * X"))
>>> sheet.do_all(("define", "H", "inv(eye(p) + G)"), ("claim", "H", "H'"), ("claim", "H * G", "eye(p) - H"))
>>> [str(sheet["H"]), sheet.definitions, sheet.claims, len(sheet.history), "A" in sheet]
["inv((eye(p) + ((X' * inv(A)) * X)))", ('G', 'H'), (('H', "H'"), ('H * G', 'eye(p) - H')), 6, True]
>>> with sheet.trial() as held:
...     held.do(("lift", 0))
...     held.undo()
...
>>> len(sheet.claims)
2
''',
    "certificates": r'''
>>> from matrixforms.certificates import certify, certify_rank
>>> from matrixforms.checker import accepts
>>> from matrixforms.formulas import Letter
>>> a, b = Letter("A", "n", "n"), Letter("B", "n", "n")
>>> claim, certificate = certify((a + b) * a, a * a + b * a)
>>> unlike = ("different", claim[1], "(A * B)", "(B * A)")
>>> matrices = (((0, 1), (1, 1)), ((0, 1), (0, 1))), (((0, 1), (0, 1)), ((1, 1), (0, 1)))
>>> [claim, accepts(claim, certificate), accepts(unlike, certificate), accepts(unlike, ((("n", 2),), matrices)), certify_rank(a * b)[0][3]]
[('same', (('A', 'n', 'n', 'plain', (0, 1)), ('B', 'n', 'n', 'plain', (0, 1))), '((A + B) * A)', '((A * A) + (B * A))'), True, False, True, 2]
''',
    "console": r'''
>>> from matrixforms.console import Console
>>> console = Console()
>>> lines = ["letter A n n", "letter B n n about 1", "let C = A * B", "test C = B * A", "test inv(B) * B = eye(n)", "rank C - A", "degree C", "claim C * inv(B) = A", "claims", "show C", "undo", "history", "degree inv(B)", "matters A C - A * B"]
>>> list(map(console.say, lines))
['ok', 'ok', 'ok', 'unlike n=3 | A: 0 1 0; 0 0 0; 0 0 0 | B: 1 0 0; 0 1 1; 0 0 1', 'same', '2', '2', 'ok', 'C * inv(B) = A', '(A * B)', 'ok', '3', 'endless', 'no']
''',
}


class ExamplesTest(unittest.TestCase):
    def test_the_examples_of_the_document(self):
        for name, text in EXAMPLES.items():
            with self.subTest(module=name):
                examples = doctest.DocTestParser().get_doctest(text, {}, name, name, 0)
                found = doctest.DocTestRunner().run(examples)
                self.assertEqual(found.failed, 0)
                self.assertGreater(found.attempted, 1)


if __name__ == "__main__":
    unittest.main()
