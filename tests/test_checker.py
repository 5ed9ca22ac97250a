import unittest
from random import Random

import claims
from checks import CheckedCase
from drawing import MANY, chain, drawn
from matrixforms import checker
from matrixforms.certificates import certify, certify_rank, certify_relations
from matrixforms.checker import accepts
from matrixforms.errors import TooRich
from matrixforms.formulas import Blocks, Eye, Letter, Zero
from matrixforms.ratios import Ratio
from samples import NO_INTEGERS, Stubborn, nested

A = Letter("A", "n", "n", about=1)
B = Letter("B", "n", "n")
S = Letter("S", "n", "n", symmetry="symmetric", about=Ratio(-1, 2))
K = Letter("K", "n", "n", symmetry="skew")
X = Letter("X", "n", "p")
EYE = Eye("n")
NIL, ONE, TWO = (0, 1), (1, 1), (2, 1)
TOLD_A, TOLD_B = ("A", "n", "n", "plain", ONE), ("B", "n", "n", "plain", NIL)
TOLD_S, TOLD_K, TOLD_X = ("S", "n", "n", "symmetric", (-1, 2)), ("K", "n", "n", "skew", NIL), ("X", "n", "p", "plain", NIL)
a, b, s, k, x, xt = ("A", False), ("B", False), ("S", False), ("K", False), ("X", False), ("X", True)


def listed(given, path=()):
    """All values within tuples, each with the indexes that lead to it."""
    yield path, given
    if isinstance(given, tuple):
        for index, inner in enumerate(given):
            yield from listed(inner, path + (index,))


def put(given, path, value):
    """The tuples with another value at a place."""
    if not path:
        return value
    return given[:path[0]] + (put(given[path[0]], path[1:], value),) + given[path[0] + 1:]


def changes_of(given, random):
    """Values that differ a little from this one."""
    if isinstance(given, bool):
        return [not given, int(given), None]
    if isinstance(given, int):
        return [given + 1, given - 1, -given, given * 2, Ratio(given), str(given), bool(given)] + ([True, False] if given in (0, 1) else [])
    if isinstance(given, str):
        return [given + " ", given.lower(), given[:-1], given.replace("(", "", 1), given.replace("A", "B"), given.replace("+", "-", 1), (given,), None]
    if isinstance(given, tuple):
        found = [list(given), given + given[:1], given[:-1], given[1:], given[::-1], (), None, given + (None,), given + (0,), (given,)]
        if len(given) > 1:
            i, j = random.randrange(len(given)), random.randrange(len(given))
            swapped = list(given)
            swapped[i], swapped[j] = swapped[j], swapped[i]
            found += [tuple(swapped), given[:i] + (given[j],) + given[i + 1:]]
        return found
    return [0, (), ""]


def certified(formulas):
    """Claims about these formulas with their certificates."""
    groups = {}
    for one in formulas:
        groups.setdefault((one.rows, one.columns), []).append(one)
    for group in groups.values():
        for one, other in zip(group, group[1:]):
            try:
                yield certify(one, other)
                yield certify(one, one * 2 - (other - other) - one)
                yield certify_rank(one)
                yield certify_relations(one, other, one * 2 - other, other - other)
            except TooRich:
                continue


class MutationTest(CheckedCase):
    def assert_decided(self, claim, certificate):
        expected = claims.accepts(claim, certificate)
        self.assertIs(accepts(claim, certificate), expected, (claim, certificate))
        return expected

    def test_changed_by_little(self):
        random, counts = Random(151), {}
        for claim, certificate in certified(drawn(80, 3, seed=152, most=5)):
            self.assertIs(accepts(claim, certificate), True)
            self.assertIs(self.assert_decided(claim, certificate), True)
            both = (claim, certificate)
            places = list(listed(both))
            for _ in range(12):
                path, given = random.choice(places)
                changed = put(both, path, random.choice(changes_of(given, random)))
                if isinstance(changed, tuple) and len(changed) == 2:
                    found = self.assert_decided(*changed)
                    counts[claim[0], found] = counts.get((claim[0], found), 0) + 1
        for kind in ("same", "different", "rank", "relations"):
            self.assertGreater(counts[kind, True], 15, counts)
            self.assertGreater(counts[kind, False], 100, counts)

    def test_each_part_of_some_certificates(self):
        random = Random(153)
        two = Blocks(((A, X), (Zero("p", "n"), Eye("p"))))
        for claim, certificate in (
            certify((A + B) * A, A * A + B * A), certify(A * S.inverse(), S.inverse() * A), certify_rank(A.inverse() * X), certify_relations(A, B, A + B * 2, A - A), certify(K * X, X * 0), certify_rank(two),
            certify_rank(A - A + B), certify_relations(X, X * 2), certify(EYE, EYE * 2), certify_rank(EYE), certify(two * two, two ** 2),
        ):
            for path, given in list(listed((claim, certificate))):
                for value in changes_of(given, random) + [None, 0, (), "", NIL, Ratio(1)]:
                    changed = put((claim, certificate), path, value)
                    if isinstance(changed, tuple) and len(changed) == 2:
                        self.assert_decided(*changed)

    def test_values_of_any_kind(self):
        for claim, certificate in (certify_rank(A * X), certify(A, A + B - B), certify(A, B), certify_relations(A, B, A * 2)):
            for given in NO_INTEGERS + (0, 1, -1, 10 ** 39, Ratio(1, 2), A, EYE, nested(19), Stubborn(), ((((((1,),),),),),), (Stubborn(),) * 4, ("same",) + (Stubborn(),) * 3):
                self.assertIs(accepts(given, certificate), False)
                self.assertIs(accepts(claim, given), False)
                for path, old in listed(claim):
                    if path and len(path) < 4:
                        self.assertIn(accepts(put(claim, path, given), certificate), (False, True))
                for path, old in list(listed(certificate))[:60]:
                    if path and len(path) < 6:
                        self.assertIn(accepts(claim, put(certificate, path, given)), (False, True))


class SameTest(CheckedCase):
    def test_interface(self):
        self.assert_interface(checker, {"accepts": ()})

    def assert_all(self, expected, cases):
        for claim, certificate in cases:
            self.assertIs(accepts(claim, certificate), expected, (claim, certificate))
            self.assertIs(accepts(certificate=certificate, claim=claim), expected)
            self.assertIs(claims.accepts(claim, certificate), expected, (claim, certificate))

    def test_same_by_hand(self):
        # The plain reader of A - A has two states, and start 0 is (1, -1).
        same = ("same", (TOLD_A,), "A", "A")
        row = ((1, 1), (-1, 1))
        self.assert_all(True, [(same, (row,)), (same, (((-1, 3), (1, 3)),)), (same, (row, row)), (same, (row, (NIL, NIL))), (same, (row, ((10 ** 39, 1), (-10 ** 39, 1))))])
        self.assert_all(False, [
            (same, ()), (same, ((NIL, NIL),)), (same, (((1, 1), (1, 1)),)), (same, (row, ((1, 1), NIL))), (same, row), (same, [row]), (same, (list(row),)), (same, (row + (NIL,),)), (same, (row[:1],)),
            (same, (((2, 2), (-1, 1)),)), (same, (((-1, -1), (1, -1)),)), (same, ((1, -1),)), (same, (((True, 1), (-1, 1)),)), (same, (((1, True), (-1, 1)),)), (same, (((1, 1), (-1, 0)),)), (same, ((Ratio(1), Ratio(-1)),)),
            (same, (row, None)), (same, (((1, 1, 1), (-1, 1)),)), (same, (((0, 2), (0, 1)), row)), (same, None), (same, row[0]),
            (("same", (TOLD_A,), "A", "(A)"), (row,)), (("same", (TOLD_A,), " A", "A"), (row,)), (("same", (TOLD_A,), "A", "B"), (row,)), (("same", (TOLD_A, TOLD_B), "A", "A"), (row,)), (("same", (), "A", "A"), (row,)),
            (("same", [TOLD_A], "A", "A"), (row,)), (("same", (list(TOLD_A),), "A", "A"), (row,)), (("same", (TOLD_A, TOLD_A), "A", "A"), (row,)), (("same", (TOLD_A,), "A", "A", ()), (row,)), (("same", (TOLD_A,), "A"), (row,)),
            (["same", (TOLD_A,), "A", "A"], (row,)), (("Same", (TOLD_A,), "A", "A"), (row,)), (("different", (TOLD_A,), "A", "A"), (row,)), (("rank", (TOLD_A,), "A", "A"), (row,)), (("relations", (TOLD_A,), "A", "A"), (row,)),
        ])
        for letter in (
            ("A", "n", "n", "plain", (2, 2)), ("A", "n", "n", "plain", 1), ("A", "n", "n", "plain", Ratio(1)), ("A", ("n",), "n", "plain", ONE), ("A", "n", "n", "Plain", ONE), ("A", "n", "n", "skew", ONE), ("A", "n", "p", "plain", ONE),
            ("a", "n", "n", "plain", ONE), ("A", "n", "n", "plain"), ("A", "n", "n", "plain", ONE, ONE), ("A", "n", "n", "plain", (1, True)), ("A", "n", "N", "plain", ONE), (None, "n", "n", "plain", ONE),
        ):
            self.assert_all(False, [(("same", (letter,), "A", "A"), (row,))])
        self.assert_all(True, [(("same", (("A", "n", "n", "skew", NIL),), "A", "A"), (row,)), (("same", (("A", "n", "p", "plain", NIL),), "A", "A"), (row,)), (("same", (("A", "n", "n", "plain", (-7, 3)),), "A", "A"), (row,))])

    def test_the_middle_has_to_be_zero(self):
        for text in ("eye(n)", "zero(n; n)"):
            self.assert_all(text == "eye(n)", [(("same", (), "eye(n)", text), ())])
        self.assert_all(False, [(("same", (TOLD_A,), "A", "(A + eye(n))"), ((ONE, (-1, 1)),))])
        self.assert_all(True, [(("same", (TOLD_A,), "A", "(A + zero(n; n))"), ((ONE, (-1, 1)),))])

    def test_holding_and_blind(self):
        # The states of A * B - A * B are those of A, B, A, B. A about 1 leads with B alone from the start on.
        letters = (("A", "n", "n", "plain", NIL), TOLD_B)
        claim = ("same", letters, "(A * B)", "(A * B)")
        first, second = (ONE, NIL, (-1, 1), NIL), (NIL, ONE, NIL, (-1, 1))
        self.assert_all(True, [(claim, (first, second)), (claim, (second, first)), (claim, (tuple((i + j, 1) for (i, _), (j, _) in zip(first, second)), second))])
        self.assert_all(False, [(claim, (first,)), (claim, (second,)), (claim, (first, second, (ONE, NIL, NIL, NIL))), (claim, (first, (NIL, ONE, NIL, ONE)))])
        # Without the row for what stands behind A nothing is shown, though each end of the other row is 0.
        unlike = ("same", letters, "(A * B)", "(A * A)")
        for rows in ((first,), (first, second), (first, (NIL, ONE, NIL, NIL), (NIL, NIL, NIL, ONE))):
            self.assert_all(False, [(unlike, rows)])

    def test_sides(self):
        self.assert_all(False, [(("same", (TOLD_X,), "(0 * X)", "(0 * X')"), ()), (("same", (), "zero(n; n)", "zero(n; p)"), ()), (("same", (), "zero(n; n)", "zero(p; n)"), ()), (("same", (), "eye(n, p)", "eye(p, n)"), ())])
        self.assert_all(False, [(("relations", (), ("zero(n; n)", "zero(p; n)"), ((ONE, NIL), (NIL, ONE))), (((), ()), ()))])
        self.assert_all(True, [(("relations", (), ("zero(n; n)", "zero(n; n)"), ((ONE, NIL), (NIL, ONE))), (((), ()), ()))])
        self.assert_all(True, [(("same", (), "zero(n; n)", "(0 * eye(n))"), ())])

    def test_different_by_hand(self):
        claim = ("different", (TOLD_A, TOLD_B), "(A * B)", "(B * A)")
        sizes, up, down = (("n", 2),), ((NIL, ONE), (NIL, NIL)), ((NIL, NIL), (ONE, NIL))
        self.assert_all(True, [(claim, (sizes, (up, down))), (claim, (sizes, (down, up))), (claim, (sizes, (up, ((ONE, NIL), (NIL, (-1, 3))))))])
        self.assert_all(False, [
            (claim, (sizes, (up, up))), (claim, (sizes, (up,))), (claim, (sizes, (up, down, up))), (claim, ((), (up, down))), (claim, ((("n", 3),), (up, down))), (claim, ((("n", 1),), (((ONE,),), ((ONE,),)))),
            (claim, ((("n", 2), ("p", 1)), (up, down))), (claim, ((("p", 2),), (up, down))), (claim, ([("n", 2)], (up, down))), (claim, ((["n", 2],), (up, down))), (claim, ((("n", (2, 1)),), (up, down))), (claim, ((("n", True),), (up, down))),
            (claim, (sizes, [up, down])), (claim, (sizes, (list(up), down))), (claim, (sizes, (up, ((NIL, NIL), (ONE, NIL), (NIL, NIL))))), (claim, (sizes, (up, ((NIL, NIL), (ONE,))))), (claim, (sizes, (up, ((NIL, NIL), ((2, 2), NIL))))), (claim, [sizes, (up, down)]),
            (claim, (sizes, (up, ((0, 0), (1, 0))))), (claim, (sizes, (up, down), ())), (claim, ((("n", 0),), ((), ()))), (claim, (sizes, (up, ((NIL, NIL), (Ratio(1), NIL))))), (claim, None),
        ])
        shapes = ("different", (TOLD_S, TOLD_X), "(S * X)", "X")
        self.assert_all(True, [(shapes, ((("n", 1), ("p", 2)), (((TWO,),), ((ONE, NIL),))))])
        self.assert_all(False, [
            (shapes, ((("p", 2), ("n", 1)), (((TWO,),), ((ONE, NIL),)))), (shapes, ((("n", 1), ("p", 2)), (((ONE,),), ((ONE, NIL),)))), (shapes, ((("n", 1), ("p", 2)), (((TWO,),), ((ONE,), (NIL,))))),
            (shapes, ((("n", 2), ("p", 1)), (((TWO, ONE), (NIL, ONE)), ((ONE,), (ONE,))))),
        ])
        self.assert_all(True, [(shapes, ((("n", 2), ("p", 1)), (((TWO, ONE), (ONE, ONE)), ((ONE,), (ONE,)))))])
        skew = ("different", (TOLD_K,), "K", "K'")
        self.assert_all(True, [(skew, (sizes, (((NIL, ONE), ((-1, 1), NIL)),)))])
        self.assert_all(False, [(skew, (sizes, (((NIL, ONE), (ONE, NIL)),))), (skew, (sizes, (((ONE, ONE), ((-1, 1), ONE)),))), (skew, (sizes, (((NIL, NIL), (NIL, NIL)),)))])

    def test_values_have_to_exist(self):
        claim = ("different", (TOLD_A,), "inv(A)", "A")
        self.assert_all(True, [(claim, ((("n", 1),), (((TWO,),),)))])
        self.assert_all(False, [(claim, ((("n", 1),), (((NIL,),),))), (claim, ((("n", 1),), (((ONE,),),)))])
        self.assert_all(False, [(("different", (TOLD_A,), "(0 * inv(A))", "A"), ((("n", 2),), (((ONE, NIL), (NIL, NIL)),)))])

    def test_names_that_no_letter_has_can_have_any_size(self):
        huge = 10 ** 39
        for claim, sizes, expected in (
            (("different", (), "eye(n)", "(2 * eye(n))"), (("n", huge),), True), (("different", (), "eye(n)", "(1 * eye(n))"), (("n", huge),), False), (("different", (), "zero(n; p)", "(2 * zero(n; p))"), (("n", huge), ("p", 3)), False),
            (("different", (), "inv(eye(n))", "zero(n; n)"), (("n", huge),), True), (("different", (), "eye(n)", "(2 * eye(n))"), (("n", 0),), False), (("different", (), "eye(n)", "(2 * eye(n))"), (("n", -1),), False),
        ):
            self.assertIs(accepts(claim, (sizes, ())), expected)
        blocks = "blocks(X, zero(n; m); zero(m; p), eye(m))"
        claim = ("different", (TOLD_X,), blocks, f"(2 * {blocks})")
        for size in (1, 2, huge):
            self.assertIs(accepts(claim, ((("m", size), ("n", 1), ("p", 1)), (((NIL,),),))), True)
        self.assertIs(accepts(("different", (TOLD_A,), "A", "(2 * A)"), ((("n", huge),), (((ONE,),),))), False)

    def test_ranks_by_hand(self):
        # The plain reader of A * B has the states 0 for A and 1 for B; A is about 1, so start 0 is (1, 1).
        claim = ("rank", (TOLD_A, TOLD_B), "(A * B)", 2)
        rows, columns = (((), 0), ((a,), 0)), (((b,), 0), ((a, b), 0))
        full = ((ONE, NIL), (NIL, ONE))
        self.assert_all(True, [
            (claim, (full, (), rows, columns)), (claim, (full + full, (), rows, columns)), (claim, (full, ((NIL, NIL),), rows, columns)), (claim, (((ONE, ONE), (NIL, (1, 5))), (), rows, columns)), (claim, (full, (), rows[::-1], columns)),
        ])
        self.assert_all(False, [
            (claim, (((ONE, ONE),), (), rows, columns)), (claim, (full, ((ONE, NIL),), rows, columns)), (claim, (full, ((NIL, ONE),), rows, columns)), (claim, (full, (), rows[:1], columns)), (claim, (full, (), rows, columns[:1])),
            (claim, (full, (), rows, columns[:1] * 2)), (claim, (full, (), rows[:1] * 2, columns)), (claim, (full, (), rows, (((), 0), ((b,), 0)))), (claim, (full, (), rows, (((b,), 0), ((a, b), 1)))), (claim, (full, (), (((), 0), ((a,), 1)), columns)),
            (claim, (full, (), (((), 0), ((a,), False)), columns)), (claim, (full, (), (((), 0), ([a], 0)), columns)), (claim, (full, (), (((), 0), ((("A", 0),), 0)), columns)), (claim, (full, (), (((), 0), ((("C", False),), 0)), columns)),
            (claim, (full, (), list(rows), columns)), (claim, (full, (), rows)), (claim, (full, (), rows, columns, ())), (claim, ((), (), rows, columns)), (claim, (full, full, rows, columns)), (("rank", *claim[1:3], 1), (full, (), rows[:1], columns[:1])),
            (("rank", *claim[1:3], 1), (full, ((NIL, ONE),), rows[:1], columns[:1])), (("rank", *claim[1:3], 0), ((), (), (), ())), (("rank", *claim[1:3], 3), (full, (), rows, columns)), (("rank", *claim[1:3], True), (full, (), rows[:1], columns[:1])),
            (("rank", *claim[1:3], (2, 1)), (full, (), rows, columns)), (("rank", *claim[1:3], -1), (full, (), rows, columns)), (("rank", *claim[1:3], "2"), (full, (), rows, columns)), (("rank", *claim[1:3], 10 ** 39), (full, (), rows, columns)),
        ])
        # Two states with equal tails: what is blind is their difference.
        twice = ("rank", (TOLD_B,), "blocks(B; B)", 1)
        self.assert_all(True, [(twice, (full, ((ONE, (-1, 1)),), (((), 0),), (((b,), 0),))), (twice, (full, ((ONE, (-1, 1)),), (((), 1),), (((b,), 0),)))])
        self.assert_all(False, [(twice, (full, (), (((), 0),), (((b,), 0),))), (twice, (full, ((ONE, ONE),), (((), 0),), (((b,), 0),))), (("rank", *twice[1:3], 2), (full, (), (((), 0), ((), 1)), (((b,), 0),) * 2))])
        # What is blind has to be held, too.
        outside = ("rank", (TOLD_B,), "((0 * B) + B)", 1)
        self.assert_all(True, [(outside, (((NIL, ONE),), (), (((), 0),), (((b,), 0),)))])
        self.assert_all(True, [(outside, (((NIL, ONE), (ONE, NIL)), ((ONE, (-1, 1)),), (((), 0),), (((b,), 0),)))])
        self.assert_all(False, [(outside, (((NIL, ONE),), ((ONE, (-1, 1)),), (((), 0),), (((b,), 0),)))])

        more = ("rank", (TOLD_B,), "(((0 * B) + B) + (0 * B))", 1)
        for blind, expected in ((((NIL, ONE, (-1, 1)),), False), (((ONE, (-1, 1), NIL),), True)):
            self.assert_all(expected, [(more, (((NIL, ONE, NIL), (ONE, NIL, NIL)), blind, (((), 0),), (((b,), 0),)))])
        # Each end of a row of the state for A is 0, but it moves to the state for B.
        chained = ("rank", (("A", "n", "n", "plain", NIL), TOLD_B), "(A * B)", 1)
        self.assert_all(False, [(chained, (full, ((ONE, NIL),), (((a,), 0),), (((b,), 0),)))])
        self.assert_all(True, [((*chained[:3], 2), (full, (), (((), 0), ((a,), 0)), (((b,), 0), ((a, b), 0))))])

    def test_rank_0(self):
        for claim in (("rank", (), "eye(n)", 0), ("rank", (), "zero(n; p)", 0)):
            self.assert_all(True, [(claim, ((), (), (), ())), (claim, (((),), (), (), ())), (claim, (((), ()), ((),), (), ()))])
            self.assert_all(False, [(claim, ((), (), (((), 0),), ())), (claim, ((), (), (), None)), (claim, (((NIL,),), (), (), ())), (("rank", *claim[1:3], 1), ((), (), (((), 0),), (((), 0),)))])
        none = ("rank", (TOLD_B,), "(B - B)", 0)
        row = ((ONE, (-1, 1)),)
        self.assert_all(True, [(none, (row, row, (), ())), (none, (row * 2, row, (), ()))])
        self.assert_all(False, [(none, (row, (), (), ())), (none, ((), (), (), ())), (none, (row, ((ONE, NIL),), (), ()))])

    def test_ranks_above_24(self):
        count = 30
        letters = tuple((letter.name, "n", "n", "plain", NIL) for letter in sorted(MANY[:count], key=lambda letter: letter.name))
        word = tuple((letter.name, False) for letter in MANY[:count])
        unit = tuple(tuple(ONE if i == j else NIL for j in range(count)) for i in range(count))
        rows = tuple((word[:k], 0) for k in range(count))
        columns = tuple((word[k:], 0) for k in range(count))
        claim = ("rank", letters, str(chain(MANY[:count])), count)
        self.assertIs(accepts(claim, (unit, (), rows, columns)), True)
        self.assertIs(accepts(claim, (unit[1:], (), rows, columns)), False)
        self.assertIs(accepts(claim, (unit, (), rows[1:] + rows[:1], columns)), True)
        self.assertIs(accepts(claim, (unit, (), rows[:-1] + rows[:1], columns)), False)
        self.assertIs(accepts((*claim[:3], count - 1), (unit, (), rows[1:], columns[1:])), False)
        same = ("same", letters, claim[2], claim[2])
        self.assertIs(accepts(same, tuple(row + tuple((-i, j) for i, j in row) for row in unit)), True)
        self.assertIs(accepts(same, tuple(row + row for row in unit)), False)

    def test_words_have_to_fit(self):
        claim = ("rank", (TOLD_X,), "(X * X')", 2)
        rows, columns = (((), 0), ((x,), 0)), (((x, xt), 0), ((xt,), 0))
        reader = certify_rank(X * X.transposed)[1]
        self.assert_all(True, [(claim, (*reader[:2], rows, columns))])
        self.assert_all(False, [(claim, (*reader[:2], rows, (((x, x), 0), ((xt,), 0)))), (claim, (*reader[:2], (((), 0), ((x, x), 0)), columns)), (claim, (*reader[:2], (((), 0), ((xt,), 0)), columns))])
        symmetric = ("rank", (TOLD_S,), "S", 1)
        full = ((ONE,),)
        self.assert_all(True, [(symmetric, (full, (), (((), 0),), (((s,), 0),)))])
        self.assert_all(False, [(symmetric, (full, (), (((), 0),), (((("S", True),), 0),)))])

    def test_relations_by_hand(self):
        # Of A, B, A + 2 * B the third is a combination, so the pivot stands at the first one.
        letters, texts = (TOLD_A, TOLD_B), ("A", "B", "(A + (2 * B))")
        basis = ((ONE, TWO, (-1, 1)),)
        claim = ("relations", letters, texts, basis)
        spans = (((ONE, TWO, (-1, 1), (-2, 1)),),)
        places = (((b,), 0, 0), ((a,), 0, 0))
        self.assert_all(True, [(claim, (spans, places)), (claim, (spans, places[::-1])), (claim, (spans, (((), 0, 0), ((b,), 0, 0)))), (claim, (((spans[0][0], ((1, 7), (2, 7), (-1, 7), (-2, 7))),), places))])
        self.assert_all(False, [
            (claim, (spans, places[:1])), (claim, (spans, places + places[:1])), (claim, (spans, places[:1] * 2)), (claim, (spans, (((), 0, 0), ((a,), 0, 0)))), (claim, ((), places)), (claim, (spans * 2, places)), (claim, (((),), places)),
            (claim, (((((ONE, NIL, NIL, NIL)),),), places)), (claim, (spans, (((b,), 0, 1), ((a,), 0, 0)))), (claim, (spans, (((b,), 0), ((a,), 0)))), (claim, (spans, (((b,), 0, False), ((a,), 0, 0)))), (claim, (spans, ((b, 0, 0), ((a,), 0, 0)))),
            (claim, spans), (claim, (spans, places, ())), (claim, [spans, places]), (claim, (spans, list(places))), (claim, (list(spans), places)),
            (("relations", letters, texts, ((TWO, (4, 1), (-2, 1)),)), (spans, places)), (("relations", letters, texts, (((-1, 1), (-2, 1), ONE),)), (spans, places)), (("relations", letters, texts, ((ONE, TWO, (-2, 2)),)), (spans, places)),
            (("relations", letters, texts, ()), ((), (((b,), 0, 0), ((a,), 0, 0), ((), 0, 0)))), (("relations", letters, texts, ((NIL, NIL, NIL),)), (spans, places)), (("relations", letters, texts, basis + basis), (spans * 2, places[:1])),
            (("relations", letters, list(texts), basis), (spans, places)), (("relations", letters, texts, list(basis)), (spans, places)), (("relations", letters, texts, (list(basis[0]),)), (spans, places)), (("relations", letters, texts, (basis[0][:2],)), (spans, places)),
            (("relations", letters, (), ()), ((), ())), (("relations", (), (), ()), ((), ())), (("relations", (), ((),), ()), ((), ())), (("relations", (TOLD_A, TOLD_B, TOLD_K), texts, basis), (spans, places)), (("relations", letters, "A", basis), (spans, places)), (("relations", letters, ("A", "B", None), basis), (spans, places)),
        ])

    def test_several_pivots(self):
        letters, texts = (TOLD_B,), ("B", "(2 * B)", "(B - B)")
        basis = ((ONE, (-1, 2), NIL), (NIL, NIL, ONE))
        claim, certificate = certify_relations(B, B * 2, B - B)
        self.assertEqual(claim, ("relations", letters, texts, basis))
        spans, places = certificate
        self.assert_all(True, [(claim, certificate), (claim, (spans, (((b,), 0, 0),)))])
        self.assert_all(False, [
            ((*claim[:3], basis[::-1]), (spans[::-1], places)), ((*claim[:3], basis[:1]), (spans[:1], places * 2)), ((*claim[:3], basis[:1]), (spans[:1], places)), (claim, (spans[::-1], places)), (claim, (spans, ())),
            ((*claim[:3], ((ONE, (-1, 2), ONE), basis[1])), certificate), (claim, (spans, (((), 0, 0),))),
        ])
        # A relation that holds but has a number at the pivot of another one.
        texts = ("B", "B", "B")
        row = lambda *numbers: tuple((number, 1) for number in numbers)
        good = ("relations", letters, texts, (row(1, 0, -1), row(0, 1, -1)))
        bad = ("relations", letters, texts, (row(1, -1, 0), row(0, 1, -1)))
        spans = ((row(1, 0, -1),), (row(0, 1, -1),))
        self.assert_all(True, [(good, (spans, (((b,), 0, 0),)))])
        self.assert_all(False, [(bad, (((row(1, -1, 0),), (row(0, 1, -1),)), (((b,), 0, 0),)))])

    def test_relations_without_others(self):
        none = ("relations", (TOLD_B,), ("(B - B)",), ((ONE,),))
        self.assert_all(True, [(none, ((((ONE, (-1, 1)),),), ()))])
        self.assert_all(False, [(none, ((((ONE, (-1, 1)),),), (((b,), 0, 0),))), (none, ((), ()))])
        one = ("relations", (TOLD_X,), ("X",), ())
        self.assert_all(True, [(one, ((), (((x,), 0, 0),)))])
        self.assert_all(False, [(one, ((), ())), (one, ((), (((), 0, 0),))), (one, ((), (((xt,), 0, 0),)))])
        self.assert_all(True, [(("relations", (), ("eye(n)",), ()), ((), (((), 0, 0),)))])


if __name__ == "__main__":
    unittest.main()
