import unittest
from random import Random

import claims
from checks import CheckedCase
from drawing import MANY, chain, drawn
from matrixforms import certificates
from matrixforms.certificates import certify, certify_rank, certify_relations
from matrixforms.checker import accepts
from matrixforms.errors import Clash, InvalidSize, Mismatch, NotAFormula, TooRich
from matrixforms.forms import form
from matrixforms.formulas import Blocks, Eye, Letter, Zero
from matrixforms.ratios import Ratio
from matrixforms.relations import relations
from matrixforms.sameness import parting, same
from rewriting import Rewriting
from test_formula_errors import NO_FORMULAS

A = Letter("A", "n", "n", about=1)
B = Letter("B", "n", "n")
S = Letter("S", "n", "n", symmetry="symmetric", about=Ratio(-1, 2))
K = Letter("K", "n", "n", symmetry="skew")
X = Letter("X", "n", "p")
Y = Letter("Y", "p", "n")
EYE = Eye("n")


def told_letters(*formulas):
    found = {letter.name: letter for one in formulas for letter in one.letters}
    return tuple(
        (name, found[name].rows[0], found[name].columns[0], found[name].symmetry, (found[name].about.top, found[name].about.bottom)) for name in sorted(found)
    )


class CertificatesCase(CheckedCase):
    def assert_accepted(self, found, anew=True):
        claim, certificate = found
        self.assertIs(type(found), tuple)
        self.assertIs(accepts(claim, certificate), True, claim)
        if anew:
            self.assertIs(claims.accepts(claim, certificate), True, claim)
        return claim


class CertifyTest(CertificatesCase):
    def test_interface(self):
        self.assert_interface(certificates, {"certify": (), "certify_rank": (), "certify_relations": ()})

    def test_formulas_written_in_several_ways(self):
        rewriting, done = Rewriting(Random(161)), 0
        for one in drawn(120, 4, seed=162, most=8):
            other = rewriting.rewritten(one)
            try:
                claim = self.assert_accepted(certify(one, other), other.weight < 30)
            except TooRich:
                continue
            done += 1
            self.assertEqual(claim, ("same", told_letters(one, other), str(one), str(other)))
        self.assertGreater(done, 100)

    def test_drawn_pairs(self):
        groups, counts = {}, {"same": 0, "different": 0}
        for one in drawn(400, 4, seed=163, most=8):
            groups.setdefault((one.rows, one.columns), []).append(one)
        for group in groups.values():
            for one, other in zip(group, group[1:]):
                found = certify(formula=one, other=other)
                claim = self.assert_accepted(found)
                counts[claim[0]] += 1
                self.assertEqual(claim, ("same" if same(one, other) else "different", told_letters(one, other), str(one), str(other)))
                self.assertEqual(found, certify(one, other))
                if claim[0] == "different":
                    shown = parting(one, other)
                    self.assertEqual(dict(found[1][0]), shown.sizes)
        self.assertGreater(min(counts.values()), 20, counts)

    def test_at_the_limits(self):
        wide = B
        while wide.weight < 512:
            wide = wide + wide
        self.assert_accepted(certify(wide, B * 512), anew=False)
        self.assert_accepted(certify(wide, B * 511), anew=False)
        deep = X
        while deep.levels < 60:
            deep = deep.transposed
        self.assert_accepted(certify(deep, X.transposed), anew=False)
        self.assert_accepted(certify_rank(deep), anew=False)
        side = ("n",) * 16
        self.assert_accepted(certify(Eye(side) * 2, Eye(side) + Eye(side)), anew=False)
        full = Blocks(tuple(tuple(MANY[(3 * i + j) % 5] * (i + j + 1) + Eye("n") * (99 if i == j else 0) for j in range(16)) for i in range(16)))
        self.assert_accepted(certify(full.inverse(), full.inverse() * 1), anew=False)
        self.assert_accepted(certify_rank(full), anew=False)
        self.assert_accepted(certify_relations(chain(MANY[:24]), chain(MANY[1:24] + MANY[:1]), chain(MANY[:24]) * 7), anew=False)
        nested = B
        for _ in range(14):
            nested = (EYE + nested * A).inverse()
        self.assert_accepted(certify(nested, nested.transposed.transposed), anew=False)
        self.assert_accepted(certify_rank(nested), anew=False)

    def test_errors(self):
        for given in NO_FORMULAS:
            self.assert_given(NotAFormula, given, certify, given, X)
            self.assert_given(NotAFormula, given, certify, A, given)
            self.assert_given(NotAFormula, given, certify_rank, given)
            self.assert_given(NotAFormula, given, certify_relations, given)
            self.assert_given(NotAFormula, given, certify_relations, A, X, given, B)
        other = Letter("A", "n", "p")
        self.assert_error(Clash, ("A",), certify, A, other)
        self.assert_error(Clash, ("A",), certify_relations, X, A, other)
        sides = ((("n",), ("n",)), (("n",), ("p",)))
        rich = chain(MANY[:25])
        for one in (A, rich):
            self.assert_error(Mismatch, sides, certify, one, X)
            self.assert_error(Mismatch, sides, certify_relations, one, B, X, Y)
        self.assert_error(InvalidSize, (0,), certify_relations)
        self.assert_error(TooRich, (24,), certify, rich, rich)
        self.assert_error(TooRich, (24,), certify, A, B + rich - rich)
        self.assert_error(TooRich, (24,), certify_rank, rich * 0)
        self.assert_error(TooRich, (24,), certify_relations, A, rich - rich)


class RankTest(CertificatesCase):
    def test_drawn_formulas(self):
        ranks = set()
        for one in drawn(200, 4, seed=164, most=10):
            try:
                found = certify_rank(formula=one)
            except TooRich:
                continue
            claim = self.assert_accepted(found, one.weight < 8)
            ranks.add(claim[3])
            self.assertEqual(claim, ("rank", told_letters(one), str(one), form(one).rank))
            self.assertEqual(found, certify_rank(one))
        self.assertTrue(set(range(5)) <= ranks, ranks)

    def test_ranks_up_to_24(self):
        for count in (1, 2, 12, 24):
            self.assertEqual(self.assert_accepted(certify_rank(chain(MANY[:count])), count < 13)[3], count)
        self.assertEqual(self.assert_accepted(certify_rank(EYE))[3], 0)
        self.assertEqual(self.assert_accepted(certify_rank(Zero("n", ("p", "q"))))[3], 0)
        self.assertEqual(self.assert_accepted(certify_rank(X - X))[3], 0)


class RelationsTest(CertificatesCase):
    def assert_relations(self, formulas, anew=True):
        found = certify_relations(*formulas)
        claim = self.assert_accepted(found, anew)
        basis = tuple(tuple((number.top, number.bottom) for number in relation) for relation in relations(*formulas))
        self.assertEqual(claim, ("relations", told_letters(*formulas), tuple(map(str, formulas)), basis))
        self.assertEqual(found, certify_relations(*formulas))
        return len(basis)

    def test_by_hand(self):
        for formulas, count in (
            ((A,), 0), ((A - A,), 1), ((A, B), 0), ((A, A), 1), ((A, B, A + B, A - B), 2), (((A + B) ** 2, A * A + B * B, A * B, B * A, B * A * 2), 2), ((EYE, EYE * 3, A, Zero("n", "n")), 2), ((X, Y.transposed, X * 0), 1),
            ((S, S.transposed, K, K.transposed), 2), ((A.inverse(), A.inverse() * B, A.inverse() * (EYE + B)), 1), ((Blocks(((A, X),)), Blocks(((A, X * 2),)), Blocks(((A * 0, X),))), 1), ((A - A, B - B, A * 0), 3),
        ):
            self.assertEqual(self.assert_relations(formulas), count)

    def test_drawn_formulas(self):
        random, counts = Random(165), set()
        groups = {}
        for one in drawn(250, 3, seed=166, most=6):
            groups.setdefault((one.rows, one.columns), []).append(one)
        for group in groups.values():
            for start in range(0, len(group), 4):
                formulas = group[start:start + 4]
                mixed = formulas[0] * random.choice((1, -2, Ratio(1, 3)))
                for one in formulas[1:]:
                    mixed = mixed + one * random.choice((0, 1, Ratio(-1, 2)))
                formulas = formulas + [mixed, formulas[0].transposed.transposed]
                random.shuffle(formulas)
                try:
                    counts.add(self.assert_relations(formulas, sum(one.weight for one in formulas) < 12))
                except TooRich:
                    continue
        self.assertTrue({2, 3} <= counts)


if __name__ == "__main__":
    unittest.main()
