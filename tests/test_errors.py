"""Tests of trapsetter.errors: base classes and fields."""

import builtins
import unittest

from trapsetter.errors import NoPage, NoSource, NoText, Over, SetError

BUILTIN_ERRORS = tuple(
    thing for thing in vars(builtins).values()
    if isinstance(thing, type) and issubclass(thing, BaseException)
)


def builtin_bases(error):
    return {base for base in BUILTIN_ERRORS if issubclass(error, base)}


class Bases(unittest.TestCase):
    def test_each_class_stands_straight_under_its_base(self):
        self.assertEqual(SetError.__bases__, (ValueError,))
        self.assertEqual(NoSource.__bases__, (SetError,))
        self.assertEqual(NoText.__bases__, (SetError,))
        self.assertEqual(Over.__bases__, (RuntimeError,))
        self.assertEqual(NoPage.__bases__, (IndexError,))

    def test_under_set_error_none_is_under_another_one(self):
        self.assertFalse(issubclass(NoSource, NoText))
        self.assertFalse(issubclass(NoText, NoSource))
        self.assertFalse(issubclass(Over, SetError))
        self.assertFalse(issubclass(NoPage, SetError))
        self.assertFalse(issubclass(Over, NoPage))
        self.assertFalse(issubclass(NoPage, Over))

    def test_no_other_builtin_error_is_a_base(self):
        values = {ValueError, Exception, BaseException}
        self.assertEqual(builtin_bases(SetError), values)
        self.assertEqual(builtin_bases(NoSource), values)
        self.assertEqual(builtin_bases(NoText), values)
        self.assertEqual(builtin_bases(Over), {RuntimeError, Exception, BaseException})
        self.assertEqual(builtin_bases(NoPage), {IndexError, LookupError, Exception, BaseException})

    def test_each_is_defined_in_its_file(self):
        for error in (SetError, NoSource, NoText, Over, NoPage):
            self.assertEqual(error.__module__, "trapsetter.errors")


class Fields(unittest.TestCase):
    def test_no_text_has_the_field_at(self):
        for at in (0, 7, None):
            self.assertEqual(NoText(at).at, at)
            self.assertEqual(NoText(at=at).at, at)

    def test_each_object_has_a_field_of_its_own(self):
        first, second = NoText(1), NoText(2)
        self.assertEqual((first.at, second.at), (1, 2))
        self.assertEqual(vars(first), {"at": 1})

    def test_no_text_needs_its_field(self):
        with self.assertRaises(TypeError):
            NoText()

    def test_the_others_are_made_with_a_text(self):
        for error in (SetError, NoSource, Over, NoPage):
            made = error("so it is")
            self.assertEqual(str(made), "so it is")
            self.assertEqual(vars(made), {})

    def test_raised_they_are_caught_by_their_bases(self):
        with self.assertRaises(SetError) as caught:
            raise NoText(5)
        self.assertEqual(caught.exception.at, 5)
        with self.assertRaises(SetError):
            raise NoSource("none")
        with self.assertRaises(RuntimeError):
            raise Over("over")
        with self.assertRaises(IndexError):
            raise NoPage("none")


if __name__ == "__main__":
    unittest.main()
