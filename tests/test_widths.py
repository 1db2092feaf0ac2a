"""Tests of widths: point 22, and point 2 of its functions."""

import inspect
import unittest

from whole import Case
from sources import source_of
from things import STRANGE
from trapsetter import widths
from trapsetter.setter import set_source
from trapsetter.widths import first_unlike, lets_unlike


def by_hand(source, source2, length, least, most):
    for width in range(least, most + 1):
        pages = [set_source(told, length, width=width)[0] for told in (source, source2)]
        for page in range(max(map(len, pages))):
            for line in range(length):
                both = [told[page][line] if page < len(told) else None for told in pages]
                if both[0] != both[1]:
                    return (width, page, line, *both)
    return None


class First(Case):
    def test_sources_that_are_alike(self):
        self.assertIsNone(first_unlike((), (), 3))
        self.assertIsNone(first_unlike(("a b c d",), ("a b", "c d"), 3))
        self.assertIsNone(first_unlike((".br", "a"), ("a", ".zz"), 3))
        self.assertIsNone(first_unlike(("a", ".bp"), ("a",), 3))

    def test_unlike_at_the_least_width(self):
        self.assertEqual(first_unlike(("a",), ("b",), 3), (1, 0, 0, "a", "b"))
        self.assertEqual(first_unlike(("a",), ("b",), 3, least=7), (7, 0, 0, "a", "b"))

    def test_unlike_at_one_width_between(self):
        self.assertEqual(first_unlike(("abc de",), ("abc", ".br", "de"), 3), (6, 0, 0, "abc de", "abc"))
        self.assertIsNone(first_unlike(("abc de",), ("abc", ".br", "de"), 3, most=5))
        self.assertEqual(first_unlike(("abc de",), ("abc", ".br", "de"), 3, least=3, most=6),
                         (6, 0, 0, "abc de", "abc"))

    def test_unlike_at_the_most_alone(self):
        source = ("x" * 38 + " y",)
        other = ("x" * 38, ".br", "y")
        self.assertEqual(first_unlike(source, other, 3), (40, 0, 0, "x" * 38 + " y", "x" * 38))
        self.assertIsNone(first_unlike(source, other, 3, most=39))
        self.assertIsNone(first_unlike(source, other, 3, least=30, most=39))
        self.assertEqual(first_unlike(source, other, 3, least=40)[0], 40)

    def test_unlike_in_a_line_and_a_page_further_on(self):
        source = (".nf", "a", "b", "c", "d", "e")
        self.assertEqual(first_unlike(source, (*source[:4], "x", "e"), 3), (1, 1, 0, "d", "x"))
        self.assertEqual(first_unlike(source, (*source[:5], "x"), 3), (1, 1, 1, "e", "x"))

    def test_unlike_in_the_number_of_lines_and_of_pages(self):
        source = (".nf", "a", "b", "c")
        self.assertEqual(first_unlike(source, (*source, "d"), 4), (1, 0, 3, "", "d"))
        self.assertEqual(first_unlike(source, (*source, "d"), 3), (1, 1, 0, None, "d"))
        self.assertEqual(first_unlike((*source, "d"), source, 3), (1, 1, 0, "d", None))
        self.assertEqual(first_unlike(source, (*source, ""), 3), (1, 1, 0, None, ""))
        self.assertEqual(first_unlike((), ("a",), 1), (1, 0, 0, None, "a"))

    def test_faults_are_not_looked_at(self):
        self.assertIsNone(first_unlike(("a", ".zz"), ("a",), 3))

    def test_least_above_most(self):
        self.assertIsNone(first_unlike(("a",), ("b",), 3, least=5, most=4))
        self.assertIsNone(first_unlike(("a",), ("b",), 3, least=40, most=1))

    def test_wd_of_a_number_alone_and_with_a_sign(self):
        self.assertIsNone(first_unlike((".wd 5", "a b c d e"), (".wd 9", "a b c d e"), 3))
        self.assertIsNone(first_unlike(("a", ".wd 5", "b"), ("a b",), 3))
        self.assertEqual(first_unlike((".wd +2", "a b"), ("a b",), 3), (1, 0, 0, "a b", "a"))
        self.assertEqual(first_unlike(("a", ".wd +0", "b"), ("a b",), 3), (3, 0, 0, "a", "a b"))

    def test_a_range_somewhat_beyond(self):
        self.assertEqual(first_unlike(("a",), ("b",), 3, least=0), (1, 0, 0, "a", "b"))
        self.assertIsNone(first_unlike(("a",), ("a",), 3, least=-2, most=43))

    def test_sources_and_lengths_somewhat_beyond(self):
        source = (".nf",) + ("b",) * 69
        self.assertIsNone(first_unlike(source, source + (".br",), 41))
        self.assertEqual(first_unlike(source, source + ("c",), 41), (1, 1, 28, "", "c"))
        self.assertEqual(first_unlike(("a",), ("b",), 0), (1, 0, 0, "a", "b"))
        self.assertIs(lets_unlike(source, source + ("c",), 41, (1, 1, 28, "", "c")), True)

    def test_sources_made_by_a_seed(self):
        for seed in range(30):
            source, length = source_of(seed)
            for other in (source[:-1], source[1:], (*source, ".zz"), (*source, "a")):
                told = first_unlike(source, other[:60], length, least=1, most=12)
                self.assertEqual(told, by_hand(source, other[:60], length, 1, 12), seed)

    def test_told_is_a_tuple_of_plain_kinds(self):
        told = first_unlike(("a",), ("b",), 3)
        self.assertIs(type(told), tuple)
        self.assertEqual([type(part) for part in told], [int, int, int, str, str])


class Lets(Case):
    def test_the_right_thing(self):
        for pair in ((("a",), ("b",)), (("abc de",), ("abc", ".br", "de")), ((), ("a",)), (("a",), ("a",))):
            told = first_unlike(*pair, 3)
            self.assertIs(lets_unlike(*pair, 3, told), True)
            self.assertIs(lets_unlike(*pair, 3, (1, 0, 0, "x", "y")), False)

    def test_nearly_right_things(self):
        pair = ("a b",), ("a", ".br", "b")
        self.assertEqual(first_unlike(*pair, 1), (3, 0, 0, "a b", "a"))
        for thing in (None, (), (3, 0, 0, "a b"), (3, 0, 0, "a b", "a", None), [3, 0, 0, "a b", "a"],
                      (4, 0, 0, "a b", "a"), (3, 1, 0, "a b", "a"), (3, 0, 1, "a b", "a"),
                      (3, 0, 0, "a", "a b"), (3, 0, 0, "a b", None), (3, False, 0, "a b", "a"),
                      (3, 0, False, "a b", "a"), ("3", 0, 0, "a b", "a"), (3, 0, 0, ("a b",), "a"),
                      ((3, 0, 0, "a b", "a"),), True, False, 3, "a b"):
            self.assertIs(lets_unlike(*pair, 1, thing), False, thing)

    def test_a_truth_stands_for_no_number(self):
        pair = ("a",), ("b",)
        self.assertIs(lets_unlike(*pair, 1, (1, 0, 0, "a", "b")), True)
        self.assertIs(lets_unlike(*pair, 1, (True, 0, 0, "a", "b")), False)
        self.assertIs(lets_unlike(*pair, 1, (1, False, 0, "a", "b")), False)

    def test_whatever_it_is(self):
        for thing in STRANGE:
            self.assertIs(lets_unlike(("a",), ("b",), 3, thing), False)
            self.assertIs(lets_unlike(("a",), ("a",), 3, thing), thing is None)
        for thing in (0, (), "", (None,), (1, 0, 0, None, None)):
            self.assertIs(lets_unlike(("a",), ("a",), 3, thing), False)

    def test_of_a_range(self):
        pair = ("a b",), ("a", ".br", "b")
        told = (3, 0, 0, "a b", "a")
        self.assertIs(lets_unlike(*pair, 3, told, most=3), True)
        self.assertIs(lets_unlike(*pair, 3, told, most=2), False)
        self.assertIs(lets_unlike(*pair, 3, None, most=2), True)
        self.assertIs(lets_unlike(*pair, 3, told, least=4), False)
        self.assertIs(lets_unlike(*pair, 3, (4, *told[1:]), least=4), True)
        self.assertIs(lets_unlike(*pair, 3, None, least=4, most=3), True)


class Arguments(Case):
    def test_by_their_names(self):
        self.assertEqual(first_unlike(source=("a",), source2=("b",), length=3, least=2, most=4),
                         (2, 0, 0, "a", "b"))
        self.assertIs(lets_unlike(source=("a",), source2=("b",), length=3, thing=(2, 0, 0, "a", "b"),
                                  least=2, most=4), True)

    def test_a_range_goes_by_its_names_alone(self):
        with self.assertRaises(TypeError):
            first_unlike(("a",), ("b",), 3, 2)
        with self.assertRaises(TypeError):
            lets_unlike(("a",), ("b",), 3, None, 2)

    def test_the_signatures_are_those_of_the_interface(self):
        self.assertEqual(str(inspect.signature(widths.first_unlike)),
                         "(source, source2, length, *, least=1, most=40)")
        self.assertEqual(str(inspect.signature(widths.lets_unlike)),
                         "(source, source2, length, thing, *, least=1, most=40)")
        for function in (first_unlike, lets_unlike):
            self.assertEqual(function.__module__, "trapsetter.widths")


if __name__ == "__main__":
    unittest.main()
