import unittest

from matrixforms import errors
from samples import NO_INTEGERS, Stubborn

# Each base with Python's own error above it, and the classes below it with their attributes.
INPUT = {
    name: ("given",)
    for name in (
        "InvalidNumber", "InvalidEntries", "InvalidSize", "InvalidName", "InvalidSide",
        "InvalidSymmetry", "InvalidAbout", "InvalidExponent", "InvalidIndex", "InvalidTable",
        "InvalidWord", "InvalidMapping", "InvalidLetters", "InvalidText", "InvalidDeed",
        "InvalidLine", "NotAMatrix", "NotAFormula", "NotARatio",
    )
}
INPUT["TextError"] = ("place",)
MEET = {
    "Clash": ("given",),
    "Mismatch": ("first", "second"),
    "UnknownName": ("given",),
    "Taken": ("given",),
    "NoSize": ("given",),
    "NoMatrix": ("given",),
    "InUse": ("user",),
    "Circular": ("given",),
    "NothingToUndo": (),
}
ANSWER = {
    "Unanchored": ("spelled",),
    "Singular": (),
    "NoValue": (),
    "TooLarge": ("limit",),
    "TooRich": ("limit",),
    "NotSolvable": ("reason", "shown"),
    "Broken": ("claim", "found"),
}
BASES = {
    "InputError": (ValueError, INPUT),
    "MeetError": (LookupError, MEET),
    "AnswerError": (ArithmeticError, ANSWER),
}
ATTRIBUTES = {**INPUT, **MEET, **ANSWER}
PYTHON_BASES = (ValueError, LookupError, ArithmeticError)

VALUES = NO_INTEGERS + (0, -1, 7, 10 ** 39, 10 ** 5000, errors.Singular())


def made(name):
    """One error of this class, or of this base."""
    attributes = ATTRIBUTES.get(name, ())
    return getattr(errors, name)(*range(len(attributes)))


class ErrorsTest(unittest.TestCase):
    def test_these_classes_and_no_others(self):
        found = [name for name, worth in vars(errors).items() if isinstance(worth, type)]
        self.assertEqual(sorted(found), sorted(list(ATTRIBUTES) + list(BASES)))
        for name in found:
            self.assertEqual(getattr(errors, name).__module__, "matrixforms.errors")
            self.assertEqual(getattr(errors, name).__name__, name)

    def test_belongs_to_its_own_class_and_those_above_alone(self):
        for base, (python_base, below) in BASES.items():
            for name in [base, *below]:
                error = made(name)
                found = [other for other in [*BASES, *ATTRIBUTES] if isinstance(error, getattr(errors, other))]
                self.assertEqual(sorted(found), sorted({base, name}))
                for other in PYTHON_BASES:
                    self.assertEqual(isinstance(error, other), other is python_base, (name, other))

    def test_made_by_position_with_any_values(self):
        for name, attributes in ATTRIBUTES.items():
            for at, _ in enumerate(attributes):
                for value in VALUES:
                    values = [object() for _ in attributes]
                    values[at] = value
                    error = getattr(errors, name)(*values)
                    for attribute, kept in zip(attributes, values):
                        self.assertIs(getattr(error, attribute), kept)

    def test_made_by_name_with_any_values(self):
        for name, attributes in ATTRIBUTES.items():
            for value in VALUES:
                error = getattr(errors, name)(**{attribute: value for attribute in attributes})
                for attribute in attributes:
                    self.assertIs(getattr(error, attribute), value)

    def test_made_by_position_and_by_name_in_any_order(self):
        error = errors.Mismatch(("n",), second=("p", "q"))
        self.assertEqual((error.first, error.second), (("n",), ("p", "q")))
        error = errors.NotSolvable(shown=None, reason="absent")
        self.assertEqual((error.reason, error.shown), ("absent", None))
        error = errors.Broken(found=[1], claim=0)
        self.assertEqual((error.claim, error.found), (0, [1]))

    def test_values_are_kept_not_copied_or_changed(self):
        given = [1, [2], {"a": [3]}]
        error = errors.InvalidTable(given)
        self.assertIs(error.given, given)
        self.assertEqual(given, [1, [2], {"a": [3]}])
        given.append(4)
        self.assertEqual(error.given, [1, [2], {"a": [3]}, 4])

    def test_all_attributes_are_needed(self):
        for name, attributes in ATTRIBUTES.items():
            if attributes:
                with self.assertRaises(TypeError):
                    getattr(errors, name)()
                with self.assertRaises(TypeError):
                    getattr(errors, name)(other=1)
            for count in range(1, len(attributes)):
                with self.assertRaises(TypeError):
                    getattr(errors, name)(*range(count))

    def test_raised_and_caught(self):
        for base, (python_base, below) in BASES.items():
            for name in below:
                error = made(name)
                for caught in (getattr(errors, name), getattr(errors, base), python_base):
                    with self.assertRaises(caught) as held:
                        raise error
                    self.assertIs(held.exception, error)

    def test_only_equal_to_itself_and_true(self):
        for name in [*BASES, *ATTRIBUTES]:
            error, other = made(name), made(name)
            self.assertTrue(error)
            self.assertIs(error == error, True)
            self.assertIs(error != error, False)
            self.assertIs(error == other, False)
            self.assertIs(error != other, True)

    def test_nothing_is_asked_of_the_values(self):
        stubborn = Stubborn()
        self.assertIs(errors.Clash(stubborn).given, stubborn)
        self.assertIs(errors.Mismatch(stubborn, stubborn).second, stubborn)


if __name__ == "__main__":
    unittest.main()
