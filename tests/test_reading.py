import unittest
from random import Random

from checks import CheckedCase
from drawing import LETTERS, drawn
from matrixforms import reading
from matrixforms.errors import (
    InvalidExponent, InvalidIndex, InvalidLetters, InvalidSide, InvalidTable, InvalidText, Mismatch, TextError, TooLarge,
    Unanchored, UnknownName,
)
from matrixforms.formulas import Blocks, Eye, Letter, Zero
from matrixforms.ratios import Ratio
from matrixforms.reading import names, read
from recogniser import wrong_place
from samples import NO_INTEGERS

A = Letter("A", "n", "n", about=1)
B = Letter("B", "n", "n")
X = Letter("X", "n", "p")
KNOWN = (A, B, X)
FIRST = {"sum": 0, "difference": 0, "scaled": 1, "product": 1, "power": 2}


def pieces_of(one, level, random):
    """The pieces of a text of a formula, with brackets where they are needed, and sometimes more."""
    found = bare_pieces(one, random)
    if FIRST.get(one.kind, 3) < level or random.random() < 0.1:
        found = ["("] + found + [")"]
    return found


def bare_pieces(one, random):
    kind, parts = one.kind, one.parts
    if kind == "letter":
        return [one.name]
    if kind == "eye":
        return ["eye", "("] + listed(one.rows) + [")"]
    if kind == "zero":
        return ["zero", "("] + listed(one.rows) + [";"] + listed(one.columns) + [")"]
    if kind in ("sum", "difference"):
        return pieces_of(parts[0], 0, random) + ["+" if kind == "sum" else "-"] + pieces_of(parts[1], 1, random)
    if kind == "scaled":
        if one.number == Ratio(-1) and random.random() < 0.5:
            # A number directly behind this sign would be one piece with it.
            return ["- "] + pieces_of(parts[0], 1, random)
        return [str(one.number), "*"] + pieces_of(parts[0], 1, random)
    if kind == "product":
        return pieces_of(parts[0], 2 if parts[0].kind == "scaled" else 1, random) + ["*"] + pieces_of(parts[1], 2, random)
    if kind == "power":
        return pieces_of(parts[0], 3, random) + ["**", str(one.exponent)]
    if kind == "transposed":
        return pieces_of(parts[0], 3, random) + ["'"]
    if kind == "corner":
        return pieces_of(parts[0], 3, random) + ["[", str(one.row), ",", str(one.column), "]"]
    if kind == "inverse":
        return ["inv", "("] + pieces_of(parts[0], 0, random) + [")"]
    found = ["blocks"]
    for line in one.table:
        for number, formula in enumerate(line):
            found += ["(" if len(found) == 1 else "," if number else ";"] + pieces_of(formula, 0, random)
    return found + [")"]


def listed(side):
    return [piece for name in side for piece in (",", name)][1:]


class ReadingTest(CheckedCase):
    def test_interface(self):
        self.assert_interface(reading, {"read": (), "names": ()})

    def test_texts_of_formulas_are_read_back(self):
        for one in drawn(300, 5, seed=31):
            found = read(str(one), one.letters)
            self.assertEqual(found, one)
            self.assertIs(type(found), type(one))
            self.assertEqual(found.parts, one.parts)
            self.assertEqual(read(str(one), LETTERS), one)

    def test_fewer_and_more_brackets_and_spaces(self):
        random = Random(32)
        for one in drawn(300, 5, seed=33):
            for spaces in (("",), (" ",), ("", "", " ", "   ")):
                text = "".join(random.choice(spaces) + piece for piece in pieces_of(one, 0, random)) + random.choice(spaces)
                self.assertEqual(read(text, LETTERS), one, text)
                self.assertEqual(set(names(text)), {letter.name for letter in one.letters})

    def test_how_sums_products_and_signs_are_made(self):
        for text, expected in (
            ("A - B + C", "((A - B) + C)"), ("A * B * C", "((A * B) * C)"), ("-A * B", "(-1 * (A * B))"), ("2 * A * B", "(2 * (A * B))"),
            ("A", "A"), ("(A)", "A"), ("((A))", "A"), (" A ", "A"), ("A + B - C + A", "(((A + B) - C) + A)"), ("A - (B - C)", "(A - (B - C))"),
            ("A * (B * C)", "(A * (B * C))"), ("A + B * C", "(A + (B * C))"), ("A * B + C", "((A * B) + C)"), ("A - B * C", "(A - (B * C))"),
            ("--A", "(-1 * (-1 * A))"), ("---A", "(-1 * (-1 * (-1 * A)))"), ("- -2 * A", "(-1 * (-2 * A))"), ("--2*A", "(-1 * (-2 * A))"),
            ("-2 * A", "(-2 * A)"), ("- 2 * A", "(-1 * (2 * A))"), ("-2*-3*A", "(-2 * (-3 * A))"), ("2 * -A", "(2 * (-1 * A))"),
            ("2 * - A * B", "(2 * (-1 * (A * B)))"), ("A - 2 * B", "(A - (2 * B))"), ("A -2 * B", "(A - (2 * B))"), ("A-2*B", "(A - (2 * B))"),
            ("A - -2 * B", "(A - (-2 * B))"), ("A--2*B", "(A - (-2 * B))"), ("A + -2 * B", "(A + (-2 * B))"), ("A+-B", "(A + (-1 * B))"),
            ("-A + B", "((-1 * A) + B)"), ("-(A + B)", "(-1 * (A + B))"), ("1/2 * A", "(1/2 * A)"), ("-1/2*A", "(-1/2 * A)"), ("0 * A", "(0 * A)"),
            ("3*(2*A)*B", "(3 * ((2 * A) * B))"), ("(3*A)*B", "((3 * A) * B)"), ("(-A)*B", "((-1 * A) * B)"), ("A*B'", "(A * B')"), ("A''", "A''"),
            ("(A*B)'", "(A * B)'"), ("-A'", "(-1 * A')"), ("A'**2", "(A' ** 2)"), ("A**2*B", "((A ** 2) * B)"), ("A*B**2", "(A * (B ** 2))"),
            ("-A**2", "(-1 * (A ** 2))"), ("2*A**2", "(2 * (A ** 2))"), ("(A**2)**3", "((A ** 2) ** 3)"), ("(A**2)'", "(A ** 2)'"),
            ("inv(A)**2", "(inv(A) ** 2)"), ("inv(A)'", "inv(A)'"), ("inv(A')", "inv(A')"), ("inv ( A )", "inv(A)"), ("inv(inv(A))", "inv(inv(A))"),
            ("A[0,0]", "A[0, 0]"), ("A [ 0 , 0 ] '", "A[0, 0]'"), ("A'[0,0][0,0]", "A'[0, 0][0, 0]"), ("A[0,0]**2", "(A[0, 0] ** 2)"),
            ("eye(n)*A", "(eye(n) * A)"), ("eye( n ,p )", "eye(n, p)"), ("zero(n;n)+A", "(zero(n; n) + A)"), ("zero(n,p;q)", "zero(n, p; q)"),
            ("eye(inv, eye, zero, blocks)", "eye(inv, eye, zero, blocks)"), ("blocks(A)", "blocks(A)"), ("blocks(A,B;C,-A)", "blocks(A, B; C, (-1 * A))"),
            ("blocks(-2*A;B+C)", "blocks((-2 * A); (B + C))"), ("blocks((A),B)[0,1]", "blocks(A, B)[0, 1]"), ("A  *  B", "(A * B)"),
        ):
            letters = tuple(Letter(name, "n", "n", about=1) for name in "ABC")
            self.assertEqual(str(read(text, letters)), expected, text)
            self.assertEqual(read(letters=letters, text=text), read(expected, letters))

    def test_many_brackets_and_terms(self):
        self.assertEqual(read("(" * 59 + "A" + ")" * 59, KNOWN), A)
        self.assertEqual(read("(" * 60 + "A" + ")" * 60, KNOWN), A)
        self.assertEqual(read("-" * 59 + "A", KNOWN).levels, 60)
        self.assertEqual(read("inv(" * 59 + "A" + ")" * 59, KNOWN).levels, 60)
        self.assertEqual(read("blocks(" * 59 + "A" + ")" * 59, KNOWN).levels, 60)
        self.assertEqual(read("(-" * 59 + "A" + ")" * 59, KNOWN).levels, 60)
        for text in ("-" * 60 + "A", "inv(" * 60 + "A" + ")" * 60, "A" + "'" * 60, "2*" * 60 + "A"):
            self.assert_error(TooLarge, (60,), read, text, KNOWN)
        text = "A" + "'" * 59 + " " * 4940
        self.assertEqual(read(text, KNOWN).levels, 60)

    def test_numbers(self):
        nines = 10 ** 40 - 1
        self.assertEqual(read(f"{nines}/{nines - 1} * A", KNOWN), A * Ratio(nines, nines - 1))
        self.assertEqual(read(f"-{nines} * A", KNOWN), A * -nines)

    def test_letters_that_do_not_stand_in_the_text(self):
        self.assertEqual(read("A", (B, A, X)).letters, (A,))
        self.assertEqual(read("eye(n)", ()), Eye("n"))
        self.assertEqual(read("zero(n, p; q)", ()), Zero(("n", "p"), "q"))


class PlacesTest(CheckedCase):
    def assert_place(self, text, place):
        self.assert_error(TextError, (place,), names, text)
        self.assert_error(TextError, (place,), read, text, KNOWN)
        self.assert_error(TextError, (place,), read, text, ())

    def test_the_places_of_the_document(self):
        for text, place in (
            ("inv2(A)", 0), ("2A", 0), ("X/2", 0), ("2/4 * A", 0), ("A -02 * B", 3), ("A ** 2/3", 5), ("A * 2", 4), ("A ** 2 ** 3", 7),
            ("A + ", 4),
        ):
            self.assert_place(text, place)
            self.assertEqual(wrong_place(text), place)
        self.assertEqual(names("A ** 0"), ("A",))
        self.assert_error(InvalidExponent, (0,), read, "A ** 0", KNOWN)

    def test_each_kind_of_piece(self):
        for text, place in (
            ("", 0), ("   ", 3), ("-", 1), ("- ", 2), ("2", 1), ("-2", 2), ("2 *", 3), ("2 * ", 4), ("2 ** A", 2), ("2 + A", 2), ("2)", 1), ("* A", 0),
            ("** A", 0), ("+A", 0), ("'A", 0), (")", 0), ("()", 1), ("(A", 2), ("(A))", 3), ("A)", 1), ("A B", 2), ("A(B)", 1), ("(A)(B)", 3), ("A'B", 2),
            ("A 2", 2), ("A2", None), ("AB", 0), ("aB", 0), ("a", 0), ("A_", 1), ("Abcdefg", 0), ("A123456", 0), ("2/4*A", 0), ("1/1 * A", 0),
            ("4/2 * A", 0), ("-0 * A", 0), ("00 * A", 0), ("01 * A", 0), ("-01 * A", 0), ("1/0 * A", 0), ("1/ 2 * A", 0), ("1 /2 * A", 2),
            ("1 / 2 * A", 2), ("-1/-2 * A", 0), ("1.5 * A", 1), ("A * * B", 4), ("A *** B", 4), ("A ** * B", 5), ("A * -B", 4), ("A * -2", 4),
            ("A * 2 * B", 4), ("A ** ", 5), ("A ** -2", 5), ("A ** B", 5), ("A ** 02", 5), ("A ** 2'", 6), ("A ** 2[0, 0]", 6), ("A ** (2)", 5),
            ("A ** 2 B", 7), ("A - ", 4), ("A - - ", 6), ("A -+ B", 3), ("A + + B", 4), ("A + * B", 4), ("inv", 3), ("inv A", 4), ("inv(", 4), ("inv()", 4),
            ("inv(A", 5), ("inv(A, B)", 5), ("inv(A; B)", 5), ("inv (A", 6), ("Inv(A)", 3), ("eye", 3), ("eye(", 4), ("eye()", 4), ("eye(N)", 4),
            ("eye(n", 5), ("eye(n,", 6), ("eye(n,)", 6), ("eye(n; p)", 5), ("eye(n p)", 6), ("eye(2)", 4), ("eye(nnnnnnn)", 4), ("eye(n1)", 4),
            ("eye((n))", 4), ("zero(n)", 6), ("zero(n, p)", 9), ("zero(n;", 7), ("zero(n;)", 7), ("zero(n; p; q)", 9), ("zero(;n)", 5), ("zero(n; P)", 8),
            ("blocks", 6), ("blocks()", 7), ("blocks(", 7), ("blocks(A", 8), ("blocks(A,", 9), ("blocks(A,)", 9), ("blocks(A;)", 9), ("blocks(A B)", 9),
            ("blocks(A;;B)", 9), ("blocks(,A)", 7), ("blocks(A, n)", 10), ("A[", 2), ("A[0", 3), ("A[0,", 4), ("A[0,0", 5), ("A[0]", 3), ("A[]", 2),
            ("A[-1, 0]", 2), ("A[0, -1]", 5), ("A[00, 0]", 2), ("A[0; 0]", 3), ("A[0, 0", 6), ("A[0, 0, 0]", 6), ("A[1/2, 0]", 2), ("A[B, 0]", 2),
            ("A $ B", 2), ("A.B", 1), ("A,B", 1), ("A;B", 1), ("A]", 1), ("A = B", 2), ("-2A", 0), ("-A2B * C", 1), ("A -2B", 3), ("A - 2 B", 6), ("--02 * A", 1),
            ("n", 0), ("eye(n)(A)", 6), ("eye n", 4), ("2 * 3", 5), ("2 * 3 + A", 6), ("A * inv2(B)", 4), ("A + eye(A)", 8), ("(A + B", 6), ("(A +) B", 4),
        ):
            self.assertEqual(wrong_place(text), place, text)
            if place is None:
                self.assertEqual(names(text), (text,))
            else:
                self.assert_place(text, place)

    def test_texts_that_break_off_and_go_on_wrongly(self):
        random = Random(34)
        off = 0
        for one in drawn(60, 4, seed=35, most=12):
            pieces = [piece.strip() for piece in pieces_of(one, 0, random)]
            for count in range(len(pieces)):
                text = " ".join(pieces[:count])
                place = wrong_place(text)
                self.assertIn(place, (None, len(text)), text)
                if place is not None:
                    off += 1
                    self.assert_place(text, place)
                self.assert_place(text + " $ " + " ".join(pieces[count:]), len(text) + 1)
        self.assertGreater(off, 300)

    def test_texts_with_a_slip(self):
        random = Random(36)
        wrong = 0
        for one in drawn(150, 4, seed=37, most=15):
            for _ in range(8):
                text = "".join(random.choice(("", "", " ")) + piece for piece in pieces_of(one, 0, random))
                for _ in range(random.choice((1, 1, 2))):
                    at = random.randrange(len(text) + 1)
                    put = random.choice(("", "", *"()*+-'[],;/02 AXnpz", "**", "inv", "eye(", "1/2", "-3", " * "))
                    text = text[:at] + put + text[at + random.choice((0, 1, 1, 2)):]
                place = wrong_place(text)
                if place is None:
                    names(text)
                else:
                    wrong += 1
                    self.assert_place(text, place)
        self.assertGreater(wrong, 500)


class NamesTest(CheckedCase):
    def test_names(self):
        for text, expected in (
            ("eye(n)", ()), ("A", ("A",)), ("B + A + B", ("B", "A")), ("inv(B2) - A * (B2 + C)", ("B2", "A", "C")), ("zero(n; p) * Inv", ("Inv",)),
            ("blocks(Z, Y; X, Z)[0, 0]'", ("Z", "Y", "X")), ("-2 * A2 ** 3", ("A2",)), ("(C * (B * (A)))", ("C", "B", "A")),
        ):
            self.assert_alike(names(text), expected)
            self.assert_alike(names(text=text), expected)

    def test_names_without_formulas(self):
        # Nothing is made, so it does not matter that nothing fits.
        self.assertEqual(names("A ** 99 + B[7, 8] * inv(zero(n; n)) + blocks(A, B; C)"), ("A", "B", "C"))


class ErrorsTest(CheckedCase):
    def test_no_strings(self):
        for given in NO_INTEGERS + (1, A, ("A",)):
            if not isinstance(given, str):
                self.assert_given(InvalidText, given, names, given)
                self.assert_given(InvalidText, given, read, given, KNOWN)
                self.assert_given(InvalidText, given, read, given, None)

    def test_no_letters(self):
        wrong = (
            None, [], [A], {"A": A}, A, "A", (A, "B"), (A, None), (A + B,), (A.transposed,), (Eye("n"),), (A, A), (A, B, Letter("A", "p", "p")),
            (A, (B,)), ((A, B),), (1,),
        )
        for given in wrong + tuple(given for given in NO_INTEGERS if not (isinstance(given, tuple) and not given)):
            self.assert_given(InvalidLetters, given, read, "A", given)
            self.assert_given(InvalidLetters, given, read, "((", given)
            self.assert_given(InvalidLetters, given, read, letters=given, text="C")

    def test_the_order_of_errors(self):
        self.assert_error(TextError, (8,), read, "C + D * ) inv(B)", KNOWN)
        self.assert_error(TextError, (9,), read, "X * X + (", KNOWN)
        self.assert_error(TextError, (8,), read, "C + X * )", KNOWN)
        self.assert_error(UnknownName, ("C",), read, "X * X + C + D", KNOWN)
        self.assert_error(UnknownName, ("D",), read, "inv(B) + A ** 0 + D * C", KNOWN)
        self.assert_error(UnknownName, ("A",), read, "A", ())
        self.assert_error(UnknownName, ("Aa",), read, "A * Aa", KNOWN)

    def test_errors_of_the_parts(self):
        sides = ((("n",), ("n",)), (("n",), ("p",)))
        for text, error, attributes in (
            ("X * X + inv(B)", Mismatch, (("p",), ("n",))), ("inv(B) + X * X", Unanchored, ("B",)), ("A + X", Mismatch, sides),
            ("A - X", Mismatch, sides), ("A ** 10", InvalidExponent, (10,)), ("A ** 0 * inv(B)", InvalidExponent, (0,)),
            ("inv(B) * A ** 0", Unanchored, ("B",)), ("A[1, 5]", InvalidIndex, (1,)), ("A[0, 5]", InvalidIndex, (5,)),
            ("inv(A[2, 0] + inv(B))", InvalidIndex, (2,)), ("inv(inv(B) + A[2, 0])", Unanchored, ("B",)),
            ("inv(X)", Mismatch, (("n",), ("p",))), ("X ** 2", Mismatch, (("n",), ("p",))), ("X ** 0", InvalidExponent, (0,)),
            ("blocks(A, X'; inv(B))", Unanchored, ("B",)), ("blocks(A, X')", Mismatch, (("n",), ("p",))), ("inv(A - eye(n))", Unanchored, ("(A - eye(n))",)),
            ("inv(A * B) + inv(B)", Unanchored, ("(A * B)",)), ("-inv(-B)", Unanchored, ("(-1 * B)",)), ("(A + X) * (X * X)", Mismatch, sides),
            ("X * X * (A + X)", Mismatch, (("p",), ("n",))), ("A * (X * X) * inv(B)", Mismatch, (("p",), ("n",))),
            ("(A ** 9) ** 9 * ((A ** 9) ** 9) ** 9 * (((B ** 9) ** 9) ** 9)", TooLarge, (1000,)), ("2 * X * X", Mismatch, (("p",), ("n",))),
        ):
            self.assert_error(error, attributes, read, text, KNOWN)
        self.assert_error(InvalidSide, (("n",) * 17,), read, "eye(" + ", ".join(["n"] * 17) + ") * inv(B)", KNOWN)
        self.assert_error(InvalidSide, (("p",) * 18,), read, "zero(n; " + ",".join(["p"] * 18) + ")", ())
        self.assertEqual(read("eye(" + ", ".join(["n"] * 16) + ")", ()).rows, ("n",) * 16)

    def test_tables_with_rows_of_unlike_lengths(self):
        self.assert_error(InvalidTable, (((A, B), (A,)),), read, "blocks(A, B; A)", KNOWN)
        self.assert_error(InvalidTable, (((A,), (A, A * 2)),), read, "blocks(A; A, 2 * A) + inv(B)", KNOWN)
        self.assertEqual(read("blocks(A, X)", KNOWN), Blocks(((A, X),)))

    def test_nothing_changes(self):
        letters = (B, A)
        one = read("A * B", letters)
        self.assertEqual(letters, (B, A))
        self.assertEqual(read("A * B", letters), one)


if __name__ == "__main__":
    unittest.main()
