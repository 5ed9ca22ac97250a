import unittest
from random import Random

from checks import CheckedCase
from drawing import MANY
from matrixforms import errors, sheets
from matrixforms.errors import (
    Broken, Circular, InUse, InvalidAbout, InvalidDeed, InvalidExponent, InvalidIndex, InvalidName, InvalidSide, InvalidSymmetry,
    InvalidText, Mismatch, NothingToUndo, Taken, TextError, TooLarge, TooRich, Unanchored, UnknownName,
)
from matrixforms.formulas import Letter
from matrixforms.ratios import Ratio
from matrixforms.sameness import parting
from matrixforms.sheets import Sheet
from plainsheet import PlainSheet
from samples import NO_INTEGERS, ODD_VALUES, Stubborn
from test_formula_errors import WRONG_NAMES, WRONG_SIZES

LETTERS = (
    ("letter", "A", "n", "n", "plain", 1), ("letter", "B", "n", "n", "plain", 0), ("letter", "S", "n", "n", "symmetric", Ratio(1, 2)),
    ("letter", "K", "n", "n", "skew", 0), ("letter", "X", "n", "p", "plain", 0),
)
NO_NAMES = [x for x in NO_INTEGERS if not isinstance(x, str)] + list(WRONG_NAMES) + [1]


def sheet_with(*deeds):
    sheet = Sheet()
    sheet.do_all(*LETTERS, *deeds)
    return sheet


def told(sheet):
    """All that a sheet tells of itself."""
    names = [letter.name for letter in sheet.letters] + list(sheet.definitions)
    return (
        sheet.letters, sheet.definitions, sheet.claims, sheet.history, len(sheet), [sheet[name] for name in names],
        [sheet.wording(name) for name in sheet.definitions],
    )


class SheetCase(CheckedCase):
    def assert_refused(self, sheet, error, attributes, *deed):
        """The deed raises this error, alone or as the last one of a group, and nothing changes."""
        before = told(sheet)
        self.assert_error(error, attributes, sheet.do, deed)
        self.assertEqual(told(sheet), before)
        self.assert_error(error, attributes, sheet.do_all, deed)
        self.assert_error(error, attributes, sheet.do_all, ("letter", "Z9", "n", "n", "plain", 0), ("define", "Y9", "Z9"), deed, None)
        self.assertEqual(told(sheet), before)
        self.assert_error(error, attributes, sheet.tried, lambda held: held.do(deed))
        self.assertEqual(told(sheet), before)


class LettersTest(SheetCase):
    def test_interface(self):
        self.assert_interface(sheets, {
            "Sheet": (
                "__init__", "do", "do_all", "undo", "trial", "tried", "__getitem__", "wording", "letters", "definitions", "claims", "history", "__contains__", "__len__", "__bool__",
            ),
        })

    def test_an_empty_sheet(self):
        sheet = Sheet()
        self.assertEqual(told(sheet), ((), (), (), (), 0, [], []))
        self.assertIs(bool(sheet), True)
        self.assert_error(NothingToUndo, (), sheet.undo)
        self.assertIsNone(sheet.do_all())
        self.assertEqual(sheet.history, ())

    def test_letters(self):
        sheet = Sheet()
        for deed in LETTERS[::-1]:
            self.assertIsNone(sheet.do(deed))
        self.assertEqual(sheet.letters, (
            Letter("A", "n", "n", about=1), Letter("B", "n", "n"), Letter("K", "n", "n", symmetry="skew"), Letter("S", "n", "n", symmetry="symmetric", about=Ratio(1, 2)), Letter("X", "n", "p"),
        ))
        self.assertEqual(sheet.history, LETTERS[::-1])
        self.assertTrue(all(found is deed for found, deed in zip(sheet.history, LETTERS[::-1])))
        self.assertEqual(sheet["X"], Letter("X", "n", "p"))
        self.assertEqual(len(sheet), 0)
        self.assertIs(bool(sheet), True)

    def test_errors(self):
        sheet = sheet_with(("define", "G", "A"))
        for given in NO_NAMES:
            self.assert_refused(sheet, InvalidName, (given,), "letter", given, 1, 2, 3, 4)
        for given in WRONG_SIZES + (None, ("n",), 1):
            self.assert_refused(sheet, InvalidSide, (given,), "letter", "A", given, 1, 2, None)
            self.assert_refused(sheet, InvalidSide, (given,), "letter", "A", "n", given, 2, None)
        for given in ("", "Plain", None, 1, ["skew"]):
            self.assert_refused(sheet, InvalidSymmetry, (given,), "letter", "A", "n", "n", given, None)
        self.assert_refused(sheet, InvalidSymmetry, ("skew",), "letter", "A", "n", "p", "skew", None)
        for given in NO_INTEGERS:
            before = told(sheet)
            self.assert_given(InvalidAbout, given, sheet.do, ("letter", "A", "n", "n", "plain", given))
            self.assertEqual(told(sheet), before)
        self.assert_refused(sheet, InvalidAbout, (1,), "letter", "A", "n", "p", "plain", 1)
        self.assert_refused(sheet, InvalidAbout, (2,), "letter", "A", "n", "n", "skew", 2)
        self.assert_refused(sheet, Taken, ("A",), "letter", "A", "n", "n", "plain", 1)
        self.assert_refused(sheet, Taken, ("G",), "letter", "G", "p", "n", "plain", 0)


class DeedsTest(SheetCase):
    def test_no_deeds(self):
        sheet = sheet_with()
        before = told(sheet)
        wrong = NO_INTEGERS + (
            0, "undo", ("undo",), ("letter",), ("letter", "A"), ("letter", "C", "n", "n", "plain"), ("letter", "C", "n", "n", "plain", 0, 0), ["letter", "C", "n", "n", "plain", 0], ("Letter", "C", "n", "n", "plain", 0),
            ("define",), ("define", "G"), ("define", "G", "A", "B"), ["define", "G", "A"], ("claim", "A"), ("claim", "A", "A", "A"), ("claim", ("A", "A")), ("drop",), ("drop", "A", "B"), ("lift",), ("lift", 0, 0), ("lift ", 0),
            ("drop ", "A"), (("drop", "A"),), (None, "A"), (Stubborn(), "A"), (1, 2, 3), ("", ""), (b"drop", "A"), ("trial", 1), ("history",), ("let", "G", "A"),
        )
        for given in wrong:
            self.assert_given(InvalidDeed, given, sheet.do, given)
            self.assert_given(InvalidDeed, given, sheet.do_all, LETTERS[0][:1] + ("C",) + LETTERS[0][2:], given)
        self.assertEqual(told(sheet), before)
        sheet.do(deed=("drop", "A"))
        self.assertEqual(len(sheet.letters), 4)

    def test_definitions(self):
        sheet = sheet_with(("define", "G", " X'*A *X"), ("define", "H", "inv(eye(p) + G)"), ("define", "F1", "H * G"))
        self.assertEqual([str(sheet[name]) for name in ("F1", "G", "H")], ["(inv((eye(p) + ((X' * A) * X))) * ((X' * A) * X))", "((X' * A) * X)", "inv((eye(p) + ((X' * A) * X)))"])
        self.assertEqual(sheet.definitions, ("F1", "G", "H"))
        self.assertEqual([sheet.wording(name) for name in sheet.definitions], ["H * G", " X'*A *X", "inv(eye(p) + G)"])
        self.assertEqual(len(sheet), 3)
        # A definition that is replaced changes those that need it, also by way of others.
        sheet.do(("define", "G", "2 * eye(p)"))
        self.assertEqual([str(sheet[name]) for name in ("F1", "G", "H")], ["(inv((eye(p) + (2 * eye(p)))) * (2 * eye(p)))", "(2 * eye(p))", "inv((eye(p) + (2 * eye(p))))"])
        sheet.undo()
        self.assertEqual(str(sheet["F1"]), "(inv((eye(p) + ((X' * A) * X))) * ((X' * A) * X))")
        sheet.do(("define", "G", " X'*A *X"))
        self.assertEqual(len(sheet.history), 9)
        # A definition may need one that comes later in the order of the names, and may have other sides than before.
        sheet.do_all(("define", "Aa", "F1 * H"), ("drop", "Aa"), ("define", "Aa", "B"), ("define", "Aa", "X"))
        self.assertEqual(sheet["Aa"], sheet["X"])

    def test_errors_of_definitions(self):
        sheet = sheet_with(("define", "G", "A * B"), ("define", "H", "G + B"), ("define", "F1", "H * H"))
        for given in NO_NAMES:
            self.assert_refused(sheet, InvalidName, (given,), "define", given, None)
        self.assert_refused(sheet, Taken, ("A",), "define", "A", None)
        for given in (*ODD_VALUES, 1, Ratio(1)):
            before = told(sheet)
            self.assert_given(InvalidText, given, sheet.do, ("define", "G", given))
            self.assertEqual(told(sheet), before)
        for text, place in (("", 0), ("A +", 3), ("A * 2", 4), ("Q + ", 4), ("inv2(Q)", 0), ("(A", 2), ("A)", 1)):
            self.assert_refused(sheet, TextError, (place,), "define", "G", text)
            self.assert_refused(sheet, TextError, (place,), "define", "New", text)
        self.assert_refused(sheet, UnknownName, ("Q",), "define", "New", "New * Q + R + A")
        self.assert_refused(sheet, UnknownName, ("R",), "define", "G", "G + A * R + Q")
        for name, text in (("G", "G"), ("New", "A - New"), ("G", "F1"), ("G", "A + H"), ("H", "F1 * A"), ("G", "F1 * X * X'"), ("H", "A * A + blocks(B, F1)[0, 0]")):
            self.assert_refused(sheet, Circular, (name,), "define", name, text)
        # What making them raises, those that are needed first, then in the order of their names.
        self.assert_refused(sheet, Mismatch, (("p",), ("n",)), "define", "G", "X * B")
        self.assert_refused(sheet, Mismatch, ((("n",), ("p",)), (("n",), ("n",))), "define", "G", "X")
        self.assert_refused(sheet, Mismatch, ((("p",), ("n",)), (("n",), ("n",))), "define", "G", "X'")
        self.assert_refused(sheet, Unanchored, ("B",), "define", "New", "inv(B) * X * X")
        self.assert_refused(sheet, InvalidExponent, (0,), "define", "New", "A ** 0")
        self.assert_refused(sheet, InvalidIndex, (1,), "define", "New", "A[0, 1]")
        self.assert_refused(sheet, InvalidSide, (("n",) * 17,), "define", "New", "eye(" + ", ".join(["n"] * 17) + ")")
        sheet.do(("define", "Aa", "inv(A - H)"))
        self.assert_refused(sheet, Unanchored, ("(A - (A + B))",), "define", "G", "A")

    def test_the_order_in_which_definitions_are_made(self):
        # C needs E, which needs D: all of these are made for Base anew, and several of them cannot be.
        sheet = sheet_with(("define", "Base", "A"), ("define", "D", "inv(Base)"), ("define", "E", "inv(Base + D)"), ("define", "C", "E * Base * D"))
        self.assert_refused(sheet, Unanchored, ("B",), "define", "Base", "B")
        self.assert_refused(sheet, Mismatch, (("n",), ("p",)), "define", "Base", "X")
        # C is made before D though it is not needed there, and its parts in the order in which they stand in its text.
        sheet = sheet_with(("define", "Base", "A"), ("define", "D", "inv(Base)"), ("define", "E", "(Base - 2 * A) ** 2 + Base"), ("define", "C", "inv(E)"))
        self.assert_refused(sheet, Mismatch, ((("n",), ("p",)), (("n",), ("n",))), "define", "Base", "X")
        self.assert_refused(sheet, Unanchored, ("(zero(n; n) + B)",), "define", "Base", "zero(n; n) + B")
        sheet = sheet_with(("define", "Base", "A"), ("define", "Z", "inv(Base)"), ("define", "Y", "Base * Base"), ("define", "C", "Z * A + Y"), ("define", "B1", "A + Y"))
        self.assert_refused(sheet, Mismatch, (("p",), ("n",)), "define", "Base", "X")
        self.assert_refused(sheet, Unanchored, ("B",), "define", "Base", "B")
        sheet = sheet_with(("define", "Base", "A"), ("define", "Z", "inv(Base)"), ("define", "Y", "X' * Base"), ("define", "C", "Z * X * Y"))
        self.assert_refused(sheet, Unanchored, ("(X * X')",), "define", "Base", "X * X'")

    def test_long_chains_of_definitions(self):
        names = [f"D{k}" for k in range(700)]
        sheet = sheet_with(("define", "D699", "A"), *[("define", f"D{k}", f"D{k + 1}") for k in range(698, -1, -1)])
        self.assertEqual(sheet["D0"], sheet["A"])
        sheet.do(("define", "D699", "A * B"))
        self.assertEqual({str(sheet[name]) for name in names}, {"(A * B)"})
        self.assert_refused(sheet, Circular, ("D699",), "define", "D699", "A + D0")
        self.assert_refused(sheet, InUse, ("D698",), "drop", "D699")


class ClaimsTest(SheetCase):
    def test_claims(self):
        sheet = sheet_with(("define", "G", "A * B"), ("claim", "S", " S'"), ("claim", "G*B", "A * (B * B)"), ("claim", "S", " S'"))
        self.assertEqual(sheet.claims, (("S", " S'"), ("G*B", "A * (B * B)"), ("S", " S'")))
        sheet.do(("lift", 0))
        self.assertEqual(sheet.claims, (("G*B", "A * (B * B)"), ("S", " S'")))
        sheet.do_all(("lift", 1), ("lift", 0))
        self.assertEqual(sheet.claims, ())
        sheet.undo()
        self.assertEqual(sheet.claims, (("G*B", "A * (B * B)"),))

    def test_errors_of_claims(self):
        sheet = sheet_with(("define", "G", "A * B"))
        for given in (*ODD_VALUES, 1, Ratio(1)):
            before = told(sheet)
            self.assert_given(InvalidText, given, sheet.do, ("claim", given, None))
            self.assert_given(InvalidText, given, sheet.do, ("claim", "Q", given))
            self.assertEqual(told(sheet), before)
        self.assert_refused(sheet, TextError, (1,), "claim", "Q)", None)
        self.assert_refused(sheet, TextError, (2,), "claim", "Q", "R*")
        self.assert_refused(sheet, UnknownName, ("Q",), "claim", "A + Q * R", "P")
        self.assert_refused(sheet, UnknownName, ("P",), "claim", "A * A ** 0", "B + P")
        self.assert_refused(sheet, InvalidExponent, (0,), "claim", "A * A ** 0", "X * X")
        self.assert_refused(sheet, Mismatch, (("p",), ("n",)), "claim", "A", "X * X")
        self.assert_refused(sheet, Mismatch, ((("n",), ("n",)), (("n",), ("p",))), "claim", "A", "X")
        for left, right in (("A", "B"), ("G", "B * A"), ("S", "2 * S"), ("X", "G * X")):
            found = parting(sheet_formula(sheet, left), sheet_formula(sheet, right))
            self.assert_refused(sheet, Broken, (0, found), "claim", left, right)
        sheet.do(("claim", "G", "A * B"))
        self.assert_refused(sheet, Broken, (1, parting(sheet["A"], sheet["B"])), "claim", "A", "B")

    def test_claims_are_checked_behind_all_formulas(self):
        sheet = sheet_with(("define", "G", "A * B"), ("claim", "G", "A * B"), ("claim", "G * X", "A * B * X"), ("claim", "inv(A + G) * G", "inv(A + G) * A * B"))
        self.assert_refused(sheet, Mismatch, (("p",), ("n",)), "define", "G", "X")
        self.assert_refused(sheet, Unanchored, ("(A + (-1 * A))",), "define", "G", "-A")
        self.assert_refused(sheet, Broken, (0, parting(sheet["B"] * sheet["A"], sheet["A"] * sheet["B"])), "define", "G", "B * A")
        sheet.do(("lift", 0))
        self.assert_refused(sheet, Broken, (0, parting(sheet["B"] * sheet["A"] * sheet["X"], sheet["A"] * sheet["B"] * sheet["X"])), "define", "G", "B * A")
        sheet.do(("define", "G", "A * B + K - K"))
        sheet = sheet_with(("define", "G", "A"), ("claim", "A", "A"), ("claim", "G", "A"), ("claim", "blocks(G, B)", "blocks(A, B)"))
        self.assert_refused(sheet, Mismatch, (("p",), ("n",)), "define", "G", "X'")
        self.assert_refused(sheet, Mismatch, ((("n",), ("p",)), (("n",), ("n",))), "define", "G", "X")
        self.assert_refused(sheet, Broken, (1, parting(sheet["K"], sheet["A"])), "define", "G", "K")
        sheet.do(("lift", 1))
        self.assert_refused(sheet, Broken, (1, parting(sheet_formula(sheet, "blocks(K, B)"), sheet_formula(sheet, "blocks(A, B)"))), "define", "G", "K")

    def test_claims_of_changed_definitions_alone(self):
        sheet = sheet_with(("define", "G", "S"), ("define", "H", "G * G"), ("claim", "G", "G'"), ("claim", "H", "G ** 2"), ("claim", "H'", "H"))
        self.assert_refused(sheet, Broken, (0, parting(sheet["B"], sheet["B"].transposed)), "define", "G", "B")
        self.assert_refused(sheet, Broken, (1, parting(sheet["B"], sheet["S"] ** 2)), "define", "H", "B")
        sheet.do_all(("lift", 0), ("lift", 0))
        self.assert_refused(sheet, Broken, (0, parting((sheet["B"] * sheet["B"]).transposed, sheet["B"] * sheet["B"])), "define", "G", "B")
        sheet.do(("define", "G", "K"))

    def test_errors_of_same(self):
        sheet = sheet_with(*[("letter", letter.name, "n", "n", "plain", 0) for letter in MANY[:25]])
        rich = " * ".join(letter.name for letter in MANY[:25])
        sheet.do(("define", "R", rich))
        self.assert_refused(sheet, TooRich, (24,), "claim", "R", "R")
        self.assert_refused(sheet, TooRich, (24,), "claim", "A", "A + R - R")
        self.assert_refused(sheet, Mismatch, ((("n",), ("n",)), (("n",), ("p",))), "claim", "R", "X")
        self.assert_refused(sheet, TooLarge, (1000,), "claim", "A", "(A ** 9) ** 9 * (A ** 9) ** 9 * (A ** 9) ** 9 * (A ** 9) ** 9 * (A ** 9) ** 9 * (A ** 9) ** 9 * (A ** 9) ** 9 * (A ** 9) ** 9 * (A ** 9) ** 9 * (A ** 9) ** 9 * (A ** 9) ** 9 * (A ** 9) ** 9 * (A ** 9) ** 9")
        sheet.do_all(("define", "R", "A"), ("claim", "R * B", "A * B"))
        self.assert_refused(sheet, TooRich, (24,), "define", "R", rich)

    def test_dropping_and_lifting(self):
        sheet = sheet_with(("define", "G", "A * B"), ("define", "H", "G + A"), ("claim", "K + S + H", "K + S + H"), ("claim", "K'", "-K"))
        for given in NO_INTEGERS + ("Q", "a", "", 1, "G "):
            before = told(sheet)
            self.assert_given(UnknownName, given, sheet.do, ("drop", given))
            self.assertEqual(told(sheet), before)
        for given in NO_INTEGERS + (-1, 2, 10 ** 39, Ratio(0)):
            before = told(sheet)
            self.assert_given(InvalidIndex, given, sheet.do, ("lift", given))
            self.assertEqual(told(sheet), before)
        for name, user in (("A", "G"), ("B", "G"), ("G", "H"), ("H", None), ("K", None), ("S", None)):
            self.assert_refused(sheet, InUse, (user,), "drop", name)
        sheet.do(("define", "F", "A"))
        self.assert_refused(sheet, InUse, ("F",), "drop", "A")
        sheet.do(("drop", "X"))
        self.assertEqual([letter.name for letter in sheet.letters], ["A", "B", "K", "S"])
        sheet.do_all(("lift", 0), ("lift", 0), ("drop", "H"), ("drop", "F"), ("drop", "G"), ("drop", "A"), ("drop", "K"))
        self.assertEqual([letter.name for letter in sheet.letters], ["B", "S"])
        self.assertEqual(sheet.definitions, ())
        sheet.do_all(("letter", "G", "p", "p", "skew", 0), ("define", "A", "G"))
        self.assertEqual(str(sheet["A"]), "G")


def sheet_formula(sheet, text):
    """The formula with a text in which names of the sheet stand."""
    other = Sheet()
    other.do_all(*sheet.history, ("define", "Value", text))
    return other["Value"]


class ReadingTest(SheetCase):
    def test_names(self):
        sheet = sheet_with(("define", "G", "A * B"))
        for name in ("A", "B", "S", "K", "X", "G"):
            self.assertIs(name in sheet, True)
        for given in NO_INTEGERS + ("C", "a", "G ", "", 1, (), ("A",), ["A"], {"A": 1}, Letter("A", "n", "n", about=1)):
            self.assertIs(given in sheet, False)
            self.assert_given(UnknownName, given, lambda: sheet[given])
            self.assert_given(UnknownName, given, sheet.wording, given)
        self.assert_error(UnknownName, ("A",), sheet.wording, "A")
        self.assertEqual(sheet.wording(name="G"), "A * B")
        with self.assertRaises(UnknownName):
            sheet["A", "B"]

    def test_a_sheet_equals_itself_alone(self):
        one, other = sheet_with(), sheet_with()
        self.assertIs(one == one, True)
        self.assertIs(one != one, False)
        self.assertIs(one == other, False)
        for given in ODD_VALUES:
            self.assertIs(one == given, False)


class HistoryTest(SheetCase):
    def test_deeds_that_change_nothing_are_deeds(self):
        sheet = sheet_with(("define", "G", "A"))
        sheet.do(("define", "G", "A"))
        self.assertEqual(sheet.history, (*LETTERS, ("define", "G", "A"), ("define", "G", "A")))
        sheet.undo()
        self.assertEqual(sheet.history, (*LETTERS, ("define", "G", "A")))

    def test_undo_to_the_empty_sheet(self):
        sheet = sheet_with(("define", "G", "A * B"), ("claim", "G", "A * B"), ("define", "G", "A * B * eye(n)"), ("lift", 0), ("drop", "G"), ("drop", "B"))
        deeds = sheet.history
        states = [told(replayed(deeds[:count])) for count in range(len(deeds) + 1)]
        for count in range(len(deeds), 0, -1):
            self.assertEqual(told(sheet), states[count])
            self.assertIsNone(sheet.undo())
        self.assertEqual(told(sheet), states[0])
        self.assert_error(NothingToUndo, (), sheet.undo)
        sheet.do_all(*deeds)
        self.assertEqual(told(sheet), states[-1])

    def test_groups(self):
        sheet = sheet_with()
        before = told(sheet)
        self.assert_error(UnknownName, ("Q",), sheet.do_all, ("define", "G", "A"), ("drop", "B"), ("claim", "Q", "A"), ("drop", "Q2"))
        self.assertEqual(told(sheet), before)
        # A deed that a later one would mend is refused.
        self.assert_error(UnknownName, ("G",), sheet.do_all, ("define", "H", "G"), ("define", "G", "A"))
        self.assertEqual(told(sheet), before)
        self.assertIsNone(sheet.do_all(("define", "G", "A"), ("define", "H", "G")))
        sheet.undo()
        self.assertEqual(sheet.definitions, ("G",))


def replayed(deeds):
    sheet = Sheet()
    sheet.do_all(*deeds)
    return sheet


class Stop(Exception):
    """What ends a block."""


class TrialTest(SheetCase):
    def test_a_trial_that_fails(self):
        sheet = sheet_with()
        before = told(sheet)
        for kind in (Stop, KeyboardInterrupt, ValueError):
            with self.assertRaises(kind):
                with sheet.trial() as held:
                    self.assertIs(held, sheet)
                    held.do(("define", "G", "A"))
                    held.undo()
                    held.undo()
                    held.do(("define", "G", "B"))
                    raise kind()
            self.assertEqual(told(sheet), before)
        with self.assertRaises(Broken):
            with sheet.trial():
                sheet.do(("define", "G", "A"))
                sheet.do(("claim", "G", "B"))
        self.assertEqual(told(sheet), before)

    def test_a_trial_that_does_not_fail(self):
        sheet = sheet_with()
        with sheet.trial() as held:
            held.do(("define", "G", "A"))
            try:
                held.do(("define", "G", "G"))
            except Circular:
                held.do(("define", "H", "G"))
        self.assertEqual(sheet.definitions, ("G", "H"))
        with sheet.trial():
            pass
        self.assertEqual(len(sheet.history), 7)

    def test_nested_trials(self):
        sheet = sheet_with()
        before = told(sheet)
        with sheet.trial():
            sheet.do(("define", "G", "A"))
            inside = told(sheet)
            try:
                with sheet.trial():
                    sheet.do(("define", "H", "G"))
                    with sheet.trial():
                        sheet.do(("drop", "H"))
                    raise Stop()
            except Stop:
                self.assertEqual(told(sheet), inside)
        self.assertEqual(told(sheet), inside)
        with self.assertRaises(Stop):
            with sheet.trial():
                with sheet.trial():
                    sheet.undo()
                    self.assertEqual(told(sheet), before)
                    sheet.undo()
                raise Stop()
        self.assertEqual(told(sheet), inside)

    def test_one_trial_entered_several_times(self):
        sheet = sheet_with()
        trial = sheet.trial()
        sheet.do(("define", "G", "A"))
        with trial:
            sheet.do(("define", "H", "A"))
        inside = told(sheet)
        with self.assertRaises(Stop):
            with trial:
                sheet.do(("drop", "H"))
                with trial:
                    sheet.do(("drop", "G"))
                raise Stop()
        self.assertEqual(told(sheet), inside)
        with self.assertRaises(Stop):
            with trial:
                with trial:
                    raise Stop()
        self.assertEqual(told(sheet), inside)

    def test_tried(self):
        sheet = sheet_with()
        before = told(sheet)
        self.assertEqual(sheet.tried(len), 0)
        self.assertIs(sheet.tried(action=lambda held: held), sheet)

        def fail(held):
            held.do(("define", "G", "A"))
            raise Stop(held)

        with self.assertRaises(Stop):
            sheet.tried(fail)
        self.assertEqual(told(sheet), before)
        self.assertIsNone(sheet.tried(lambda held: held.do(("define", "G", "A"))))
        self.assertEqual(sheet.definitions, ("G",))
        with self.assertRaises(Stop):
            sheet.tried(lambda held: (held.tried(lambda inner: inner.undo()), fail(held)))
        self.assertEqual(sheet.definitions, ("G",))


class DrawnDeedsTest(SheetCase):
    """Drawn deeds, with a sheet that reads and makes everything anew beside the other one."""

    NAMES = ("A", "B", "X", "G", "H", "L", "M")
    TEXTS = (
        "A", "B", "G", "H", "L", "M", "A * B", "G * H", "inv(A)", "inv(G)", "inv(G + H)", "L'", "X * X'", "X", "X'", "A + G", "G - G", "H * B - L", "2 * L", "G * H * L", "zero(n; n)", "eye(n)", "inv(L) * L",
        "Q", "G +", "A ** 0", "M * M", "inv(eye(n) + G' * G)", "G * X", "blocks(G, H)[0, 1]", "blocks(G; H)", "(A + G) ** 2", "A * A + A * G + G * A + G * G", "G'", "H'", "B * H", "-B", 5,
    )

    def drawn_deed(self, random):
        kind = random.choice(("letter", "define", "define", "define", "claim", "claim", "drop", "lift", "undo"))
        name = random.choice(self.NAMES)
        if kind == "letter":
            return (kind, name, "n", random.choice("nnp"), random.choice(("plain", "plain", "symmetric")), random.choice((0, 1)))
        if kind == "define":
            return (kind, name, random.choice(self.TEXTS))
        if kind == "claim":
            left = random.choice(self.TEXTS)
            return (kind, left, random.choice((left, random.choice(self.TEXTS), f"({left}) + 0 * ({left})", f"({left})''")))
        return (kind, name) if kind == "drop" else (kind, random.randrange(4)) if kind == "lift" else None

    def test_drawn_deeds(self):
        counts = {}
        for seed in range(40):
            random = Random(1000 + seed)
            sheet, plain = Sheet(), PlainSheet()
            for deed in LETTERS[:2] + LETTERS[4:]:
                sheet.do(deed)
                plain.do(deed)
            for _ in range(60):
                deed = self.drawn_deed(random)
                try:
                    plain.undo() if deed is None else plain.do(deed)
                    expected = None
                except (errors.InputError, errors.MeetError, errors.AnswerError) as error:
                    expected = error
                counts[type(expected)] = counts.get(type(expected), 0) + 1
                if expected is None:
                    self.assertIsNone(sheet.undo() if deed is None else sheet.do(deed))
                else:
                    self.assert_error(type(expected), tuple(vars(expected).values()), *((sheet.undo,) if deed is None else (sheet.do, deed)))
                self.assert_like(sheet, plain)
        for error in (type(None), Taken, InUse, UnknownName, InvalidIndex, Circular, TextError, InvalidText, Broken, Mismatch, Unanchored, InvalidExponent):
            self.assertGreater(counts.get(error, 0), 5, error)

    def assert_like(self, sheet, plain):
        self.assertEqual(sheet.letters, tuple(plain.letters[name] for name in sorted(plain.letters)))
        self.assertEqual(sheet.definitions, tuple(sorted(plain.texts)))
        self.assertEqual(sheet.claims, tuple(plain.claims))
        self.assertEqual(sheet.history, tuple(plain.history))
        self.assertEqual({name: sheet.wording(name) for name in sheet.definitions}, plain.texts)
        self.assertEqual({name: sheet[name] for name in plain.formulas}, plain.formulas)
        self.assertEqual([name in sheet for name in self.NAMES], [name in plain.formulas for name in self.NAMES])


if __name__ == "__main__":
    unittest.main()
