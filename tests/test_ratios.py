import re
import unittest
from fractions import Fraction
from math import gcd

from matrixforms import ratios
from matrixforms.errors import InputError, InvalidNumber, NotARatio
from matrixforms.ratios import Ratio
from samples import NO_INTEGERS, ODD_VALUES

LONG = 1234567890123456789012345678901234567890
NINES = 10 ** 40 - 1
SMALL = [Ratio(top, bottom) for top in range(-6, 7) for bottom in (1, 2, 3, 4, 6)]
LARGE = [Ratio(LONG, NINES), Ratio(-NINES, LONG), Ratio(NINES), Ratio(-LONG), Ratio(1, NINES), Ratio(0, LONG)]


def exact(ratio):
    """The same number as a fraction of Python's library."""
    return Fraction(ratio.top, ratio.bottom)


def huge():
    """A Ratio with about 3900 digits above and below the line, made by the program."""
    one = Ratio(NINES, 10 ** 39 + 7)
    found = one
    for _ in range(97):
        found = found * one
    return found


class RatioTest(unittest.TestCase):
    def assert_ratio(self, found, top, bottom):
        self.assertIs(type(found), Ratio)
        self.assertEqual((found.top, found.bottom), (top, bottom))
        self.assertIs(type(found.top), int)
        self.assertIs(type(found.bottom), int)

    def assert_given(self, error, given, call, *args, **named):
        with self.assertRaises(InputError) as held:
            call(*args, **named)
        self.assertIs(type(held.exception), error)
        self.assertIs(held.exception.given, given)


class MakingTest(RatioTest):
    def test_the_example_of_the_document(self):
        found = list(map(str, [
            Ratio(6, -4), Ratio(1, 2) + Ratio(1, 3), Ratio(3) * 2, Ratio.read("-3/4"), Ratio(1, 2).over(3),
        ])) + [repr(Ratio(0, -5))]
        self.assertEqual(found, ["-3/2", "5/6", "6", "-3/4", "1/6", "Ratio(0, 1)"])

    def test_defined_where_the_interface_lists_it(self):
        self.assertEqual(Ratio.__module__, "matrixforms.ratios")
        self.assertIs(vars(ratios)["Ratio"], Ratio)
        listed = ("__init__", "top", "bottom", "over", "read", "__add__", "__sub__", "__mul__", "__neg__",
                  "__str__", "__repr__", "__eq__", "__bool__")
        for name in listed:
            self.assertIn(name, vars(Ratio))
        self.assertIsInstance(vars(Ratio)["read"], classmethod)

    def test_lowest_terms(self):
        for top, bottom, low_top, low_bottom in (
            (1, 2, 1, 2), (2, 4, 1, 2), (-2, 4, -1, 2), (2, -4, -1, 2), (-2, -4, 1, 2),
            (6, 3, 2, 1), (6, -3, -2, 1), (7, 7, 1, 1), (-7, 7, -1, 1), (12, 18, 2, 3), (5, -1, -5, 1),
            (0, 1, 0, 1), (0, 9, 0, 1), (0, -9, 0, 1), (NINES, 9, NINES // 9, 1), (1, -NINES, -1, NINES),
            (2 * LONG, 4 * LONG, 1, 2), (-LONG, LONG, -1, 1),
        ):
            self.assert_ratio(Ratio(top, bottom), low_top, low_bottom)

    def test_lowest_terms_for_many(self):
        for top in range(-30, 31):
            for bottom in list(range(-30, 0)) + list(range(1, 31)):
                found = Ratio(top, bottom)
                self.assertGreaterEqual(found.bottom, 1)
                self.assertEqual(gcd(found.top, found.bottom), 1)
                self.assertEqual(found.top * bottom, top * found.bottom)

    def test_bottom_left_out(self):
        for top in (-7, -1, 0, 1, 6, LONG, -NINES):
            self.assert_ratio(Ratio(top), top, 1)
            self.assert_ratio(Ratio(top=top), top, 1)

    def test_by_position_and_by_name(self):
        self.assert_ratio(Ratio(6, bottom=4), 3, 2)
        self.assert_ratio(Ratio(top=6, bottom=4), 3, 2)
        self.assert_ratio(Ratio(bottom=4, top=6), 3, 2)
        self.assert_ratio(Ratio(1, 2).over(other=3), 1, 6)
        self.assert_ratio(Ratio.read(text="-2/3"), -2, 3)

    def test_top_that_is_no_integer(self):
        for given in NO_INTEGERS + (Ratio(1), Ratio(1, 2)):
            self.assert_given(InvalidNumber, given, Ratio, given)
            self.assert_given(InvalidNumber, given, Ratio, given, 2)
            self.assert_given(InvalidNumber, given, Ratio, bottom=2, top=given)

    def test_bottom_that_is_no_integer(self):
        for given in NO_INTEGERS + (Ratio(1), Ratio(1, 2)):
            for top in (0, 1, -LONG):
                self.assert_given(InvalidNumber, given, Ratio, top, given)
                self.assert_given(InvalidNumber, given, Ratio, top, bottom=given)

    def test_the_first_of_both_wrong_values_is_given(self):
        first, second = ["first"], ["second"]
        self.assert_given(InvalidNumber, first, Ratio, first, second)
        self.assert_given(InvalidNumber, first, Ratio, bottom=second, top=first)
        self.assert_given(InvalidNumber, first, Ratio, first, 0)
        self.assert_given(InvalidNumber, True, Ratio, True, False)
        self.assert_given(InvalidNumber, False, Ratio, False, 0)
        self.assert_given(InvalidNumber, False, Ratio, 1, False)
        self.assertEqual((first, second), (["first"], ["second"]))

    def test_bottom_of_zero(self):
        for top in (-1, 0, 1, LONG):
            self.assert_given(InvalidNumber, 0, Ratio, top, 0)
            self.assert_given(InvalidNumber, 0, Ratio, top, bottom=0)

    def test_never_changes(self):
        one = Ratio(1, 2)
        for name in ("top", "bottom"):
            with self.assertRaises(AttributeError):
                setattr(one, name, 5)
        one + 1, one - 1, one * 2, -one, one.over(7), str(one), repr(one), bool(one), one == 3
        self.assert_ratio(one, 1, 2)


class CountingTest(RatioTest):
    def test_against_the_library(self):
        for one in SMALL + LARGE:
            for other in SMALL + LARGE:
                for found, expected in (
                    (one + other, exact(one) + exact(other)),
                    (one - other, exact(one) - exact(other)),
                    (one * other, exact(one) * exact(other)),
                ):
                    self.assert_ratio(found, expected.numerator, expected.denominator)
                if other:
                    expected = exact(one) / exact(other)
                    self.assert_ratio(one.over(other), expected.numerator, expected.denominator)
            self.assert_ratio(-one, -one.top, one.bottom)

    def test_with_integers(self):
        for one in SMALL + LARGE:
            for other in (-NINES, -3, -1, 0, 1, 2, 12, LONG):
                for found, expected in (
                    (one + other, exact(one) + other),
                    (one - other, exact(one) - other),
                    (one * other, exact(one) * other),
                ):
                    self.assert_ratio(found, expected.numerator, expected.denominator)
                if other != 0:
                    expected = exact(one) / other
                    self.assert_ratio(one.over(other), expected.numerator, expected.denominator)

    def test_division_by_what_is_no_number(self):
        for one in (Ratio(1, 2), Ratio(0)):
            for given in NO_INTEGERS:
                self.assert_given(InvalidNumber, given, one.over, given)
                self.assert_given(InvalidNumber, given, one.over, other=given)

    def test_division_by_zero(self):
        for one in (Ratio(1, 2), Ratio(0), Ratio(-LONG, NINES)):
            for given in (0, Ratio(0), Ratio(0, -5), Ratio(1, 2) - Ratio(2, 4)):
                self.assert_given(InvalidNumber, given, one.over, given)
                self.assert_given(InvalidNumber, given, one.over, other=given)

    def test_equal_calls_give_equal_results_and_keep_their_arguments(self):
        one, other = Ratio(-3, 4), Ratio(5, 6)
        for call in (Ratio.__add__, Ratio.__sub__, Ratio.__mul__, Ratio.over):
            self.assertEqual(call(one, other), call(one, other))
            self.assertEqual(call(one, other), call(Ratio(3, -4), Ratio(10, 12)))
        self.assertEqual(Ratio(2, 4), Ratio(2, 4))
        self.assertEqual(Ratio.read("2/3"), Ratio.read("2/3"))
        self.assert_ratio(one, -3, 4)
        self.assert_ratio(other, 5, 6)

    def test_results_with_far_more_than_40_digits(self):
        one = huge()
        self.assertGreater(len(str(one.top)), 3800)
        self.assertGreater(len(str(one.bottom)), 3800)
        self.assert_ratio(Ratio(one.top, one.bottom), one.top, one.bottom)
        self.assert_ratio(Ratio(-one.top, -one.bottom), one.top, one.bottom)
        self.assert_ratio(Ratio(one.top), one.top, 1)
        self.assert_ratio(-one, -one.top, one.bottom)
        self.assert_ratio(one - one, 0, 1)
        self.assert_ratio(one + -one.top, *(exact(one) - one.top).as_integer_ratio())
        self.assert_ratio(one.over(one), 1, 1)
        self.assert_ratio(one.over(one.top), 1, one.bottom)
        self.assert_ratio(one * one.bottom, one.top, 1)
        self.assertEqual(str(one), f"{one.top}/{one.bottom}")
        self.assertEqual(repr(one), f"Ratio({one.top}, {one.bottom})")
        self.assertEqual(Ratio.read(str(one)), one)
        self.assertEqual(Ratio.read(str(-one)), -one)
        self.assertEqual(Ratio.read("-" + str(one)), -one)
        self.assertTrue(one)
        self.assertFalse(one == -one)


class TextTest(RatioTest):
    def test_texts(self):
        for ratio, text, shown in (
            (Ratio(0), "0", "Ratio(0, 1)"), (Ratio(-0, 7), "0", "Ratio(0, 1)"), (Ratio(3), "3", "Ratio(3, 1)"),
            (Ratio(-3), "-3", "Ratio(-3, 1)"), (Ratio(-3, 4), "-3/4", "Ratio(-3, 4)"),
            (Ratio(10, -4), "-5/2", "Ratio(-5, 2)"), (Ratio(100, 10), "10", "Ratio(10, 1)"),
            (Ratio(1, 10), "1/10", "Ratio(1, 10)"),
            (Ratio(1 - NINES, NINES), "-" + "9" * 39 + "8/" + "9" * 40, "Ratio(-" + "9" * 39 + "8, " + "9" * 40 + ")"),
        ):
            self.assertEqual(str(ratio), text)
            self.assertEqual(repr(ratio), shown)
            self.assert_ratio(Ratio.read(text), ratio.top, ratio.bottom)

    def test_reading_what_is_written(self):
        for one in SMALL + LARGE:
            self.assert_ratio(Ratio.read(str(one)), one.top, one.bottom)
            self.assertEqual(eval(repr(one)), one)

    def test_reading_off_an_object(self):
        self.assert_ratio(Ratio(5).read("1/2"), 1, 2)

    def test_texts_that_are_nearly_right(self):
        for text in (
            "", " ", "-", "/", "-/", "1/", "/2", "-/2", "1/-", "--1", "+1", "+1/2", "1/+2", "1/-2", "-1/-2", "-+1",
            " 1", "1 ", "1 /2", "1/ 2", "- 1", "1 2", "\t1", "1\n", "\n", "1/2\n", "1\x00", "\x001",
            "00", "01", "-01", "007", "01/2", "1/02", "-1/02", "-0", "-00", "0/1", "0/2", "-0/2", "0/0", "-0/1",
            "1/1", "-3/1", "1/0", "-1/0", "0/0", "1/00", "2/4", "6/3", "-2/4", "3/3", "10/15",
            "1/2/3", "1//2", "1.0", "1.5", "1,2", "1_0", "1_000", "1e3", "0x1", "0b1", "1L", "a", "1a", "a1", "Ratio(1, 2)",
            "\u0661", "\u0661/\u0662", "1/\u0662", "-\u0663", "\u00b2", "1\u00b2", "\uff11", "\U0001d7cf", "\u22121",
            "\u00bd", "1\u20442", "\u00a01", "nan", "inf", "None", "True", "(1)", "'1'", "1'", "0" * 5000, "1/" + "0" * 4998,
            f"{2 * LONG}/{2 * NINES}",
        ):
            self.assert_given(NotARatio, text, Ratio.read, text)
            self.assert_given(NotARatio, text, Ratio.read, text=text)

    def test_all_short_texts(self):
        form = re.compile("(-?[1-9][0-9]*|0)(?:/([1-9][0-9]*))?")
        texts, level = 0, [""]
        for _ in range(5):
            level = [text + sign for text in level for sign in "-/0124 +"]
            for text in level:
                texts += 1
                match = form.fullmatch(text)
                top, bottom = (int(match[1]), int(match[2] or 1)) if match else (0, 0)
                if match and gcd(top, bottom) == 1 and match[2] != "1":
                    self.assert_ratio(Ratio.read(text), top, bottom)
                else:
                    self.assert_given(NotARatio, text, Ratio.read, text)
        self.assertEqual(texts, 37448)

    def test_values_that_are_no_strings(self):
        for given in ODD_VALUES + (0, 1, -1, LONG, Ratio(1, 2)):
            self.assert_given(NotARatio, given, Ratio.read, given)


class ComparingTest(RatioTest):
    def assert_equal_both_ways(self, one, other, expected):
        self.assertIs(one == other, expected)
        self.assertIs(one != other, not expected)
        self.assertIs(other == one, expected)
        self.assertIs(other != one, not expected)

    def test_ratios(self):
        for one in SMALL + LARGE:
            for other in SMALL + LARGE:
                self.assert_equal_both_ways(one, other, exact(one) == exact(other))
        self.assert_equal_both_ways(Ratio(2, -4), Ratio(-1, 2), True)
        self.assert_equal_both_ways(Ratio(1, 2), Ratio(1, 3), False)
        self.assert_equal_both_ways(Ratio(1, 2), Ratio(3, 2), False)

    def test_integers_truth_values_and_texts(self):
        for one, other in (
            (Ratio(1), 1), (Ratio(0), 0), (Ratio(-5), -5), (Ratio(1), True), (Ratio(0), False), (Ratio(LONG), LONG),
            (Ratio(1), "1"), (Ratio(1, 2), "1/2"), (Ratio(1, 2), "Ratio(1, 2)"), (Ratio(1, 2), (1, 2)),
            (Ratio(1, 2), [1, 2]), (Ratio(0), None), (Ratio(0), ""), (Ratio(1, 2), Fraction(1, 2)),
            (Ratio(1, 2), Ratio), (Ratio(0), NotARatio(0)),
        ):
            self.assert_equal_both_ways(one, other, False)

    def test_any_value_on_the_right(self):
        for one in (Ratio(0), Ratio(1), Ratio(1, 2)):
            for other in NO_INTEGERS:
                self.assertIs(one == other, False)
                self.assertIs(one != other, True)

    def test_truth(self):
        for one in SMALL + LARGE:
            self.assertIs(bool(one), one.top != 0)
        self.assertFalse(Ratio(0))
        self.assertFalse(Ratio(0, -7))
        self.assertFalse(Ratio(1, 2) - Ratio(2, 4))
        self.assertTrue(Ratio(1, LONG))
        self.assertTrue(Ratio(-1))


if __name__ == "__main__":
    unittest.main()
