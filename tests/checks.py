"""What several tests ask for."""

import unittest

from matrixforms import errors

BASES = (errors.InputError, errors.MeetError, errors.AnswerError)


class CheckedCase(unittest.TestCase):
    def assert_error(self, error, attributes, call, *args, **named):
        """The call raises this very error, whose attributes are these, in their order."""
        with self.assertRaises(BASES) as held:
            call(*args, **named)
        found = held.exception
        self.assertIs(type(found), error)
        names = list(vars(error(*attributes)))
        self.assertEqual(len(names), len(attributes))
        for name, expected in zip(names, attributes):
            self.assert_alike(getattr(found, name), expected)

    def assert_given(self, error, given, call, *args, **named):
        """The call raises this very error with the very value that was passed."""
        with self.assertRaises(BASES) as held:
            call(*args, **named)
        self.assertIs(type(held.exception), error)
        self.assertIs(held.exception.given, given)

    def assert_alike(self, found, expected):
        """Both are equal and of equal kinds, inside of tuples too."""
        if found is expected:
            return
        self.assertIs(type(found), type(expected))
        if isinstance(expected, tuple):
            self.assertEqual(len(found), len(expected))
            for one, other in zip(found, expected):
                self.assert_alike(one, other)
        else:
            self.assertEqual(found, expected)

    def assert_interface(self, module, listed):
        """The module itself defines these names; classes define what is listed for them."""
        for name, inside in listed.items():
            self.assertEqual(vars(module)[name].__module__, module.__name__, name)
            for inner in inside:
                self.assertIn(inner, vars(vars(module)[name]), name)
