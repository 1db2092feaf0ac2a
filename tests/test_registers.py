"""Tests of trapsetter.registers: point 5, and point 2 of its functions."""

import inspect
import unittest

from trapsetter import registers
from trapsetter.registers import FORMS, clamped, shown, stepped

LARGE = 10 ** 99


class Forms(unittest.TestCase):
    def test_the_forms(self):
        self.assertEqual(FORMS, ("1", "01", "a", "i"))
        self.assertIs(type(FORMS), tuple)


class Clamped(unittest.TestCase):
    def test_between_the_ends_told_as_it_is(self):
        for value in (-9999, -9998, -1, 0, 1, 9998, 9999):
            self.assertEqual(clamped(value), value)

    def test_beyond_an_end_stays_there(self):
        self.assertEqual(clamped(10000), 9999)
        self.assertEqual(clamped(-10000), -9999)
        self.assertEqual(clamped(LARGE), 9999)
        self.assertEqual(clamped(-LARGE), -9999)

    def test_one_end_told(self):
        self.assertEqual(clamped(-1, least=0), 0)
        self.assertEqual(clamped(0, least=0), 0)
        self.assertEqual(clamped(10000, least=0), 9999)
        self.assertEqual(clamped(21, most=20), 20)
        self.assertEqual(clamped(20, most=20), 20)
        self.assertEqual(clamped(-10000, most=20), -9999)
        self.assertEqual(clamped(10001, most=LARGE), 10001)
        self.assertEqual(clamped(-10001, least=-LARGE), -10001)

    def test_both_ends_told(self):
        self.assertEqual([clamped(value, least=1, most=3) for value in (-LARGE, 0, 1, 2, 3, 4, LARGE)],
                         [1, 1, 1, 2, 3, 3, 3])
        self.assertEqual(clamped(7, least=5, most=5), 5)
        self.assertEqual(clamped(-7, most=-3, least=-5), -5)

    def test_the_ends_are_told_by_names_alone(self):
        with self.assertRaises(TypeError):
            clamped(1, 0)
        with self.assertRaises(TypeError):
            clamped(1, 0, 2)


class Shown(unittest.TestCase):
    def test_figures(self):
        self.assertEqual([shown(value, "1") for value in (0, 1, 9, 10, 26, 27, 39, 40)],
                         ["0", "1", "9", "10", "26", "27", "39", "40"])
        self.assertEqual([shown(value, "1") for value in (-1, -9, -10, -9999, 9999)],
                         ["-1", "-9", "-10", "-9999", "9999"])

    def test_two_figures_at_least(self):
        self.assertEqual([shown(value, "01") for value in (0, 1, 9, 10, 26, 27, 39, 40)],
                         ["00", "01", "09", "10", "26", "27", "39", "40"])
        self.assertEqual([shown(value, "01") for value in (-1, -9, -10, -100, -9999, 9999, 100)],
                         ["-01", "-09", "-10", "-100", "-9999", "9999", "100"])

    def test_letters(self):
        self.assertEqual("".join(shown(value, "a") for value in range(1, 27)),
                         "abcdefghijklmnopqrstuvwxyz")
        self.assertEqual([shown(value, "a") for value in (1, 9, 10, 26)], ["a", "i", "j", "z"])

    def test_letters_of_others_are_figures(self):
        self.assertEqual([shown(value, "a") for value in (0, 27, 39, 40, -1, -26, -9999, 9999)],
                         ["0", "27", "39", "40", "-1", "-26", "-9999", "9999"])

    def test_roman_figures(self):
        self.assertEqual([shown(value, "i") for value in range(1, 40)], [
            "i", "ii", "iii", "iv", "v", "vi", "vii", "viii", "ix", "x",
            "xi", "xii", "xiii", "xiv", "xv", "xvi", "xvii", "xviii", "xix", "xx",
            "xxi", "xxii", "xxiii", "xxiv", "xxv", "xxvi", "xxvii", "xxviii", "xxix", "xxx",
            "xxxi", "xxxii", "xxxiii", "xxxiv", "xxxv", "xxxvi", "xxxvii", "xxxviii", "xxxix",
        ])

    def test_roman_figures_of_others_are_figures(self):
        self.assertEqual([shown(value, "i") for value in (0, 40, 41, -1, -39, -9999, 9999)],
                         ["0", "40", "41", "-1", "-39", "-9999", "9999"])

    def test_all_values_are_texts_of_their_figures(self):
        for value in range(-9999, 10000):
            self.assertEqual(shown(value, "1"), str(value))
            self.assertEqual(int(shown(value, "01")), value)
            self.assertGreaterEqual(len(shown(value, "01").lstrip("-")), 2)


class Stepped(unittest.TestCase):
    def test_the_step_is_added_to_the_value(self):
        self.assertEqual(stepped((1, 1, "1")), (2, 1, "1"))
        self.assertEqual(stepped((5, -7, "01")), (-2, -7, "01"))
        self.assertEqual(stepped((5, 0, "a")), (5, 0, "a"))
        self.assertEqual(stepped((0, 3, "i")), (3, 3, "i"))

    def test_at_the_ends(self):
        self.assertEqual(stepped((9998, 1, "1")), (9999, 1, "1"))
        self.assertEqual(stepped((9999, 0, "1")), (9999, 0, "1"))
        self.assertEqual(stepped((-9998, -1, "1")), (-9999, -1, "1"))
        self.assertEqual(stepped((9999, -1, "1")), (9998, -1, "1"))
        self.assertEqual(stepped((-9999, 9999, "1")), (0, 9999, "1"))

    def test_beyond_the_ends(self):
        self.assertEqual(stepped((9999, 1, "01")), (9999, 1, "01"))
        self.assertEqual(stepped((9998, 2, "a")), (9999, 2, "a"))
        self.assertEqual(stepped((9999, 9999, "i")), (9999, 9999, "i"))
        self.assertEqual(stepped((-9999, -1, "1")), (-9999, -1, "1"))
        self.assertEqual(stepped((-9999, -9999, "1")), (-9999, -9999, "1"))

    def test_what_is_handed_in_stays(self):
        told = (9999, 5, "a")
        stepped(told)
        self.assertEqual(told, (9999, 5, "a"))

    def test_told_is_a_tuple_of_plain_kinds(self):
        told = stepped((1, 2, "a"))
        self.assertIs(type(told), tuple)
        self.assertEqual([type(part) for part in told], [int, int, str])
        self.assertEqual(stepped(told), (5, 2, "a"))


class Arguments(unittest.TestCase):
    def test_by_their_places_and_by_their_names(self):
        self.assertEqual(clamped(value=5, least=6, most=7), 6)
        self.assertEqual(clamped(value=10000), 9999)
        self.assertEqual(shown(value=3, form="i"), "iii")
        self.assertEqual(shown(3, form="a"), "c")
        self.assertEqual(stepped(told=(1, 2, "1")), (3, 2, "1"))

    def test_the_signatures_are_those_of_the_interface(self):
        told = {name: str(inspect.signature(getattr(registers, name)))
                for name in ("clamped", "shown", "stepped")}
        self.assertEqual(told, {
            "clamped": "(value, *, least=-9999, most=9999)",
            "shown": "(value, form)", "stepped": "(told)",
        })

    def test_each_is_defined_in_its_file(self):
        for function in (clamped, shown, stepped):
            self.assertEqual(function.__module__, "trapsetter.registers")

    def test_answers_are_of_plain_kinds(self):
        self.assertIs(type(clamped(LARGE)), int)
        self.assertIs(type(shown(5, "01")), str)


if __name__ == "__main__":
    unittest.main()
