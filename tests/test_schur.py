import unittest

import reference
from checks import CheckedCase
from drawing import Drawing, drawn
from matrixforms import schur as module
from matrixforms.errors import InvalidIndex, Mismatch, NotAFormula, TooLarge, TooRich, Unanchored
from matrixforms.formulas import Blocks, Eye, Formula, Inverse, Letter, Zero
from matrixforms.sameness import same
from matrixforms.schur import eliminated, part, schur
from rewriting import all_in
from samples import NO_INTEGERS, Stubborn
from test_formula_errors import NO_FORMULAS

A = Letter("A", "n", "n", about=1)
B = Letter("B", "n", "p")
C = Letter("C", "p", "n")
D = Letter("D", "p", "p", about=2)
F = Blocks(((A, B), (C, D)))
NAMES = tuple("abcdefghijklmnop")


def spans(side, sizes):
    """For each name of a side the indexes of its rows in a value."""
    found, start = [], 0
    for name in side:
        found.append(list(range(start, start + sizes[name])))
        start += sizes[name]
    return found


def picked(table, rows, columns):
    return [[table[i][j] for j in columns] for i in rows]


def part_of(one, table, sizes, rows, columns):
    """The part of a value with these indexes of the names."""
    tops, lefts = spans(one.rows, sizes), spans(one.columns, sizes)
    return picked(table, [i for k in rows for i in tops[k]], [j for k in columns for j in lefts[k]])


def quarters(one, table, sizes, count):
    head, rest = range(count), range(count, len(one.rows))
    return [part_of(one, table, sizes, rows, columns) for rows in (head, rest) for columns in (head, rest)]


def complement(parts):
    return reference.plus(parts[3], reference.times(reference.times(parts[2], reference.inverse(parts[0])), parts[1]), -1)


def stage(drawing, one):
    sizes = {name: drawing.random.randint(1, 2) for name in one.sizes}
    return sizes, {letter.name: drawing.table(letter, sizes) for letter in one.letters}


def square_ones(count, seed, levels=4, most=10):
    """Drawn square formulas with two names or more."""
    return [one for one in drawn(count, levels, seed=seed, most=most) if one.rows == one.columns and len(one.rows) > 1]


def inverses_in(one):
    return [inner for inner in all_in(one) if inner.kind == "inverse"]


class PartTest(CheckedCase):
    def test_interface(self):
        self.assert_interface(module, {"part": (), "schur": (), "eliminated": ()})

    def test_by_hand(self):
        for rows, columns, expected in (
            ((0,), (0,), A), ((0,), (1,), B), ((1,), (0,), C), ((1,), (1,), D), ((0, 1), (0, 1), F), ((1, 0), (1, 0), Blocks(((D, C), (B, A)))),
            ((0, 0), (1,), Blocks(((B,), (B,)))), ((1,), (0, 1, 0), Blocks(((C, D, C),))), ((0, 1), (1,), Blocks(((B,), (D,)))),
        ):
            for one in (F, F.inverse().inverse(), F + Zero(F.rows, F.columns), F.transposed.transposed, Blocks(((F,),)), Blocks(((Blocks(((A, B),)),), (Blocks(((C, D),)),)))):
                found = part(one, rows, columns)
                self.assertIs(same(found, expected), True, (str(one), rows, columns))
                self.assertEqual(found.rows, tuple(one.rows[k] for k in rows))
        self.assertIs(same(part(columns=(0,), rows=(1,), formula=F ** 2), C * A + D * C), True)
        self.assertIs(same(part(A, (0, 0), (0,)), Blocks(((A,), (A,)))), True)
        self.assertIs(same(part(Eye(("n", "p")), (1, 0), (0, 1)), Blocks(((Zero("p", "n"), Eye("p")), (Eye("n"), Zero("n", "p"))))), True)

    def test_values(self):
        drawing, done = Drawing(121), 0
        for one in drawn(300, 4, seed=122, most=12):
            rows = tuple(drawing.random.randrange(len(one.rows)) for _ in range(drawing.random.randint(1, 4)))
            columns = tuple(drawing.random.randrange(len(one.columns)) for _ in range(drawing.random.randint(1, 4)))
            found = part(one, rows, columns)
            self.assertEqual((found.rows, found.columns), (tuple(one.rows[k] for k in rows), tuple(one.columns[k] for k in columns)))
            self.assertTrue(all(x in one.letters for x in found.letters))
            self.assertTrue({*found.sizes} <= {*one.sizes})
            sizes, tables = stage(drawing, one)
            try:
                whole = reference.value(one, sizes, tables)
            except reference.NoInverse:
                continue
            done += 1
            self.assertEqual(reference.value(found, sizes, tables), part_of(one, whole, sizes, rows, columns))
        self.assertGreater(done, 200)

    def test_errors(self):
        for given in NO_FORMULAS:
            self.assert_given(NotAFormula, given, part, given, (0,), (0,))
            self.assert_given(NotAFormula, given, part, given, None, None)
        wrong = (None, True, 0, 1, (), (2,), (-1,), (0, 2), (True,), (0, False), ("0",), ((0,),), [0], [0, 1], {0: 1}, {0}, "0", "01", (0,) * 17, (None,), (0, Stubborn()), Stubborn(), b"\0", A, range(2))
        for given in wrong:
            self.assert_given(InvalidIndex, given, part, F, given, (0,))
            self.assert_given(InvalidIndex, given, part, F, (0,), given)
            self.assert_given(InvalidIndex, given, part, F, columns=(5,), rows=given)
        self.assert_error(InvalidIndex, ((1,),), part, A, (1,), (0,))
        self.assert_error(InvalidIndex, ((1,),), part, B, (0,), (1,))
        self.assertEqual(part(B, (0,) * 16, (0,)).rows, ("n",) * 16)

    def test_never_too_large_within_the_bound(self):
        deep = A
        for _ in range(49):
            deep = deep.transposed
        self.assertEqual(deep.levels, 50)
        self.assertIsInstance(part(deep, (0,) * 16, (0,) * 16), Formula)
        deep = Blocks(((A, B), (C, D)))
        for _ in range(48):
            deep = deep.inverse() if deep.levels & 1 else deep.transposed
        self.assertEqual((deep.levels, deep.weight), (50, 4))
        self.assertIsInstance(part(deep, (0, 1) * 8, (1, 0) * 7), Formula)
        heavy = (F ** 8) * (F ** 7) * (Blocks(((A, B), (Zero("p", "n"), D))) + Zero(F.rows, F.columns))
        self.assertEqual(heavy.weight, 65)
        self.assertIsInstance(part(heavy, (0, 1, 0), (0, 1, 1, 1, 0)), Formula)
        self.assertEqual(part(Eye(NAMES), tuple(range(16)), tuple(range(15, -1, -1))).rows, NAMES)

    def test_too_large(self):
        heavy = (F ** 9) ** 9
        self.assert_error(TooLarge, (1000,), part, heavy, (0, 1), (0, 1))
        for _ in range(70):
            if heavy.levels < 60:
                heavy = heavy.transposed
        self.assert_error(TooLarge, (60,), part, heavy, (0,), (0,))


def three_of(one):
    """The blocks of all names of a formula."""
    count = len(one.rows)
    return Blocks(tuple(tuple(one[i, j] for j in range(count)) for i in range(count)))


class SchurTest(CheckedCase):
    def test_by_hand(self):
        self.assertIs(same(schur(F, 1), D - C * A.inverse() * B), True)
        # The Schur complement of the head in the inverse is the inverse of the rest's own part.
        self.assertIs(same(schur(count=1, formula=F.inverse()), D.inverse()), True)
        self.assertIs(same(eliminated(formula=F, count=1), Inverse(F)), True)
        self.assertIs(same(eliminated(F.inverse(), 1), F), True)
        wide = Blocks(((A, B, B), (C, D, D), (C, Zero("p", "p"), D)))
        self.assertIs(same(schur(wide, 1), Blocks(((D - C * A.inverse() * B, D - C * A.inverse() * B), (-C * A.inverse() * B, D - C * A.inverse() * B)))), True)
        # A head of two names leaves the Schur complement of the Schur complement.
        self.assertIs(same(schur(wide, 2), schur(schur(wide, 1), 1)), True)
        self.assertIs(same(eliminated(wide, 1), eliminated(wide, 2)), True)
        self.assertEqual(schur(wide, 2).rows, ("p",))

    def assert_both(self, drawing, one, count):
        """Both functions tell the truth at drawn matrices, or say rightly that there is no answer."""
        middles = quarters(one, reference.table_of(one.middle), {name: 1 for name in one.sizes}, count)
        try:
            reference.inverse(middles[0])
        except reference.NoInverse:
            for function in (schur, eliminated):
                with self.assertRaises(Unanchored) as held:
                    function(one, count)
                self.assertIs(type(held.exception.spelled), str)
            return 0
        found = [schur(one, count)]
        try:
            reference.inverse(reference.table_of(one.middle))
            found.append(eliminated(one, count))
        except reference.NoInverse:
            with self.assertRaises(Unanchored):
                eliminated(one, count)
        self.assert_bounded(one, count, found)
        sizes, tables = stage(drawing, one)
        try:
            whole = reference.value(one, sizes, tables)
            expected = [complement(quarters(one, whole, sizes, count)), reference.inverse(whole)]
        except reference.NoInverse:
            return 0
        for inner, table in zip(found, expected):
            self.assertEqual(reference.value(inner, sizes, tables), table, str(one))
        return len(found)

    def assert_bounded(self, one, count, found):
        own = {str(inner) for inner in inverses_in(one)}
        longest = max(count, len(one.rows) - count)
        sides = [one.rows[count:], one.rows]
        for inner, side in zip(found, sides):
            self.assertEqual((inner.rows, inner.columns), (side, side))
            self.assertTrue(all(x in one.letters for x in inner.letters))
            self.assertTrue({*inner.sizes} <= {*one.sizes})
            for deep in inverses_in(inner):
                self.assertTrue(str(deep) in own or len(deep.rows) <= longest)

    def test_drawn_formulas(self):
        drawing, done = Drawing(123), 0
        for one in square_ones(1200, 124):
            for count in range(1, len(one.rows)):
                done += self.assert_both(drawing, one, count)
        self.assertGreater(done, 150)

    def test_blocks_of_several_names(self):
        drawing, done = Drawing(125), 0
        for _ in range(30):
            side = drawing.side(3) + drawing.side(2)
            rows, columns = drawing.parted(side), drawing.parted(side)
            one = Blocks(tuple(tuple(drawing.formula(line, width, 2) for width in columns) for line in rows)) + Eye(side) * 7
            for inner in (one, one.transposed, Blocks(((one,),))):
                for count in range(1, len(side)):
                    done += self.assert_both(drawing, inner, count)
        self.assertGreater(done, 80)

    def test_sameness_of_the_inverse(self):
        done = 0
        for one in square_ones(400, 126, most=7):
            try:
                found = eliminated(one, 1)
                self.assertIs(same(found, one.inverse()), True)
                done += 1
            except (Unanchored, TooRich):
                continue
        self.assertGreater(done, 15)

    def test_errors(self):
        for function in (schur, eliminated):
            for given in NO_FORMULAS:
                self.assert_given(NotAFormula, given, function, given, 1)
                self.assert_given(NotAFormula, given, function, given, None)
            for one in (B, Blocks(((A, B),)), Zero(("n", "p"), ("p", "n")), Zero(("n", "p"), ("n", "p", "p"))):
                for count in (0, 1, 2, None):
                    self.assert_error(Mismatch, (one.rows, one.columns), function, one, count)
            for given in NO_INTEGERS + (0, -1, 2, 3, 10 ** 39):
                self.assert_given(InvalidIndex, given, function, F, given)
            for given in (0, 1, 2, None):
                self.assert_given(InvalidIndex, given, function, A, given)
            for given in (0, 2, True):
                self.assert_given(InvalidIndex, given, function, Zero(("n", "p"), ("n", "p")), given)
            for one in (Blocks(((Zero("n", "n"), B), (C, D))), Zero(("n", "n"), ("n", "n")), Blocks(((Zero("n", "n"), Eye("n")), (Eye("n"), Zero("n", "n"))))):
                with self.assertRaises(Unanchored) as held:
                    function(one, 1)
                self.assertIs(type(held.exception.spelled), str)
        flat = Blocks(((A, A), (A, A)))
        self.assertIs(same(schur(flat, 1), Zero("n", "n")), True)
        with self.assertRaises(Unanchored):
            eliminated(flat, 1)

    def test_parts_of_blocks_are_formulas_of_the_table(self):
        e = Blocks(((B, B), (D, D)))
        wide = Blocks(((A, Blocks(((B, B),))), (Blocks(((C,), (C,))), Blocks(((D, D), (D, D * 7))))))
        three = Blocks(((A, B, B), (C, D, D * 2), (C, D * 3, D)))
        for one, count in ((F, 1), (three, 1), (three, 2), (wide, 1)):
            for function in (schur, eliminated):
                inside = all_in(function(one, count))
                self.assertFalse([inner for inner in inside if inner == one or inner.kind == "corner"], str(one))
        self.assertEqual(str(schur(F, 1)), "(D - ((C * inv(A)) * B))")
        self.assertEqual(str(schur(wide, 1)), str(wide.parts[3] - wide.parts[2] * A.inverse() * wide.parts[1]))
        self.assertEqual(part(F, (1,), (0, 1)), Blocks(((C, D),)))
        self.assertEqual(part(three, (2,), (1,)), Blocks(((D * 3,),)))
        # Where the head ends within a formula of the table, parts of the whole are taken.
        self.assertIs(same(schur(wide, 2), schur(three_of(wide), 2)), True)
        self.assertEqual(part(e, (0,), (1,)), Blocks(((B,),)))

    def test_unanchored_comes_before_too_large(self):
        for table in (((A, B), (C, D)), ((A * 0, B), (C, D)), ((A, A), (A, A))):
            deep = Blocks(table)
            while deep.levels < 60:
                deep = deep.transposed
            anchored = table[0][0] == A
            self.assert_error(TooLarge, (60,), schur, deep, 1) if anchored else self.assertRaises(Unanchored, schur, deep, 1)
            self.assert_error(TooLarge, (60,), eliminated, deep, 1) if anchored and table[0][1] == B else self.assertRaises(Unanchored, eliminated, deep, 1)
        heavy = ((Blocks(((A, B), (C, D))) ** 9) ** 9) * Zero(("n", "p"), ("n", "p"))
        for function in (schur, eliminated):
            with self.assertRaises(Unanchored):
                function(heavy, 1)
            self.assert_error(TooLarge, (1000,), function, (F ** 9) ** 9, 1)

    def test_never_too_large_within_the_bound(self):
        letters = tuple(Letter(f"L{k}", "n", "n", about=k - 2) for k in range(7))
        drawing, done = Drawing(127, letters), 0
        drawing.side = lambda most=2: ("n",)
        for size in (1, 2, 2, 2, 3, 3, 4) * 12:
            entries, left = [], 16
            while len(entries) < size * size:
                one = drawing.formula(("n",), ("n",), drawing.random.randint(1, 5))
                if one.levels <= 5 and one.weight <= left - (size * size - len(entries) - 1):
                    entries.append(one)
                    left -= one.weight
            one = Blocks(tuple(tuple(entries[k:k + size]) for k in range(0, len(entries), size)))
            for count in range(1, size):
                for function in (schur, eliminated):
                    try:
                        self.assertIsInstance(function(one, count), Formula)
                        done += 1
                    except Unanchored:
                        pass
        self.assertGreater(done, 100)
        full = Blocks(tuple(tuple(Letter(f"M{i}{j}", "n", "n", about=10 ** (3 * i) + j ** i).inverse().transposed.inverse().transposed for j in range(4)) for i in range(4)))
        self.assertEqual((full.weight, full.levels), (16, 6))
        for count in (1, 2, 3):
            self.assertEqual(schur(full, count).rows, ("n",) * (4 - count))
            self.assertEqual(eliminated(full, count).rows, ("n",) * 4)


if __name__ == "__main__":
    unittest.main()
