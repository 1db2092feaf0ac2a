"""Tests of kept sets: point 21, and points 2 and 3 as they bear on them."""

import inspect
import random
import unittest

from whole import Case, macro
from sources import line_of, source_of
from things import STRANGE
from trapsetter.errors import NoPage, NoSource
from trapsetter.keep import Keep
from trapsetter.setter import Setter, set_source

SOURCE = (".nf", "a", "b", "c", "d", "e")

# The line that is read too many is the fifth, from 0, behind the macro.
ENDLESS = (*macro("abc", ".abc", ".abc"), ".abc", "a", "b")


class KeepCase(Case):
    def assert_kept(self, keep, source, length, handed):
        self.assertEqual(keep.source(), source)
        self.assertEqual((keep.pages(), keep.faults()), set_source(source, length))
        self.assertEqual(keep.read_so_far(), handed)


class Changes(KeepCase):
    def test_at_first_all_lines_are_read(self):
        self.assert_kept(Keep(SOURCE, 3), SOURCE, 3, 6)
        self.assert_kept(Keep((), 3), (), 3, 0)

    def test_put(self):
        for number, handed in ((0, 7), (1, 6), (3, 4), (5, 2), (6, 1)):
            keep = Keep(SOURCE, 3)
            self.assertIsNone(keep.put(number, "x"))
            self.assert_kept(keep, (*SOURCE[:number], "x", *SOURCE[number:]), 3, 6 + handed)

    def test_take(self):
        for number, handed in ((0, 5), (1, 4), (3, 2), (5, 0)):
            keep = Keep(SOURCE, 3)
            self.assertIsNone(keep.take(number))
            self.assert_kept(keep, (*SOURCE[:number], *SOURCE[number + 1:]), 3, 6 + handed)

    def test_change(self):
        for number, handed in ((0, 6), (1, 5), (3, 3), (5, 1)):
            keep = Keep(SOURCE, 3)
            self.assertIsNone(keep.change(number, "x"))
            self.assert_kept(keep, (*SOURCE[:number], "x", *SOURCE[number + 1:]), 3, 6 + handed)

    def test_one_put_in_that_is_like_those_behind_it(self):
        source = ("a", "b", "b", "b", "c")
        for number in (1, 2, 3, 4):
            keep = Keep(source, 3)
            keep.put(number, "b")
            self.assert_kept(keep, ("a", "b", "b", "b", "b", "c"), 3, 5 + 2)
        keep = Keep(("b", "b"), 3)
        keep.put(0, "b")
        self.assert_kept(keep, ("b", "b", "b"), 3, 2 + 1)

    def test_one_taken_that_is_like_those_behind_it(self):
        for number in (1, 2, 3):
            keep = Keep(("a", "b", "b", "b", "c"), 3)
            keep.take(number)
            self.assert_kept(keep, ("a", "b", "b", "c"), 3, 5 + 1)
        keep = Keep(("b", "b", "b"), 3)
        keep.take(0)
        self.assert_kept(keep, ("b", "b"), 3, 3)

    def test_one_changed_to_what_it_is(self):
        keep = Keep(SOURCE, 3)
        for number, line in enumerate(SOURCE):
            keep.change(number, line)
        self.assert_kept(keep, SOURCE, 3, 6)

    def test_each_time_counted(self):
        keep = Keep(SOURCE, 3)
        keep.put(6, "f")
        keep.change(1, "x")
        keep.take(0)
        keep.put(0, ".nf")
        self.assert_kept(keep, (".nf", "x", "b", "c", "d", "e", "f"), 3, 6 + 1 + 6 + 6 + 7)

    def test_from_a_source_of_nothing_and_back(self):
        keep = Keep((), 3)
        keep.put(0, "a")
        keep.put(1, "b")
        self.assert_kept(keep, ("a", "b"), 3, 2)
        keep.take(1)
        keep.take(0)
        self.assert_kept(keep, (), 3, 2)

    def test_within_a_macro_and_without_its_end(self):
        keep = Keep((*macro("abc", "x"), ".nf", ".abc"), 3)
        keep.take(2)
        self.assert_kept(keep, (".de abc", "x", ".nf", ".abc"), 3, 5 + 2)
        keep.put(1, "..")
        self.assert_kept(keep, (".de abc", "..", "x", ".nf", ".abc"), 3, 7 + 4)

    def test_behind_an_ended_one_none(self):
        keep = Keep(ENDLESS, 3)
        self.assert_kept(keep, ENDLESS, 3, 5)
        keep.change(6, "c")
        self.assert_kept(keep, (*ENDLESS[:6], "c"), 3, 5)
        keep.put(5, "x")
        self.assert_kept(keep, (*ENDLESS[:5], "x", "a", "c"), 3, 5)
        keep.put(4, "y")
        self.assert_kept(keep, (*ENDLESS[:4], "y", ".abc", "x", "a", "c"), 3, 5 + 2)
        keep.take(5)
        self.assert_kept(keep, (*ENDLESS[:4], "y", "x", "a", "c"), 3, 7 + 3)

    def test_an_endless_end(self):
        # The break behind the last line puts the one that is too many.
        source = (".sp 9999",) * 10
        keep = Keep((*source, "a"), 40)
        self.assertEqual(keep.faults(), [(11, (), "endless")])
        keep.put(11, "b")
        self.assert_kept(keep, (*source, "a", "b"), 40, 12)

    def test_many_changes(self):
        for seed in range(60):
            chance = random.Random(seed)
            source, length = source_of(seed)
            keep = Keep(source, length)
            for _ in range(6):
                deed = chance.choice(("put", "take", "change"))
                number = chance.randrange(len(source)) if source else 0
                line = chance.choice((line_of(chance), source[number] if source else "a"))
                if deed == "put" and len(source) < 60:
                    keep.put(number, line)
                    source = (*source[:number], line, *source[number:])
                elif deed == "take" and source:
                    keep.take(number)
                    source = (*source[:number], *source[number + 1:])
                elif source:
                    keep.change(number, line)
                    source = (*source[:number], line, *source[number + 1:])
                self.assertEqual(keep.source(), source)
                self.assertEqual((keep.pages(), keep.faults()), set_source(source, length), seed)
                self.assertTrue(keep == Keep(source, length))


class Refused(KeepCase):
    def test_no_source_and_no_length(self):
        for thing in (*STRANGE, ["a"], "a", ("a",) * 61, ("a" * 61,), 5):
            for length in (3, 0, None):
                with self.assertRaises(NoSource):
                    Keep(thing, length)
        for thing in (*STRANGE, 0, 41, "3", (3,)):
            with self.assertRaises(NoSource):
                Keep(SOURCE, thing)
        for length in (1, 40):
            self.assertEqual(Keep(("a",), length).pages(), set_source(("a",), length)[0])

    def test_no_such_number(self):
        keep = Keep(SOURCE, 3)
        for thing in (*STRANGE, -1, 7, 60, "0", "", (0,), [0]):
            for line in ("x", None, "a" * 61):
                with self.assertRaises(NoPage):
                    keep.put(thing, line)
                with self.assertRaises(NoPage):
                    keep.change(thing, line)
            with self.assertRaises(NoPage):
                keep.take(thing)
        for deed in (lambda: keep.take(6), lambda: keep.change(6, "x"), lambda: Keep((), 3).take(0)):
            with self.assertRaises(NoPage):
                deed()
        self.assert_kept(keep, SOURCE, 3, 6)

    def test_no_line(self):
        keep = Keep(SOURCE, 3)
        for thing in (*STRANGE, "a" * 61, "a\n", 0, ("a",), ()):
            for number in (0, 5):
                with self.assertRaises(NoSource):
                    keep.put(number, thing)
                with self.assertRaises(NoSource):
                    keep.change(number, thing)
            with self.assertRaises(NoSource):
                keep.put(6, thing)
        self.assert_kept(keep, SOURCE, 3, 6)

    def test_a_sixty_first_line(self):
        source = ("a",) * 59
        keep = Keep(source, 3)
        keep.put(59, "b")
        for number in (0, 30, 60):
            with self.assertRaises(NoSource):
                keep.put(number, "c")
        with self.assertRaises(NoPage):
            keep.put(61, "c")
        self.assert_kept(keep, (*source, "b"), 3, 60)
        keep.change(59, "c")
        self.assert_kept(keep, (*source, "c"), 3, 61)


class Likened(KeepCase):
    def test_each_keep_of_the_same_source_and_length(self):
        keep = Keep(SOURCE, 3)
        other = Keep(SOURCE[:5], 3)
        self.assertFalse(keep == other)
        self.assertTrue(keep != other)
        other.put(5, "e")
        self.assertTrue(keep == other)
        self.assertFalse(keep != other)
        self.assertFalse(keep == Keep(SOURCE, 4))
        self.assertFalse(keep == Keep(SOURCE[::-1], 3))
        self.assertTrue(Keep((), 1) == Keep((), 1))

    def test_and_nothing_else(self):
        keep = Keep(SOURCE, 3)
        for thing in (*STRANGE, SOURCE, (SOURCE, 3), [SOURCE, 3], 3, "a", Setter(3), keep.pages()):
            self.assertIs(keep == thing, False)
            self.assertIs(keep != thing, True)


class Told(KeepCase):
    def test_told_is_the_asker_s_own(self):
        keep = Keep((".nf", "a", ".zz", "b", "c"), 2)
        pages, faults = keep.pages(), keep.faults()
        self.assertEqual((type(pages), type(faults), type(keep.source())), (list, list, tuple))
        pages.clear()
        faults.append("x")
        self.assert_kept(keep, (".nf", "a", ".zz", "b", "c"), 2, 5)
        pages, faults, source = keep.pages(), keep.faults(), keep.source()
        keep.take(2)
        self.assertEqual((pages, faults), set_source(source, 2))

    def test_by_their_names(self):
        keep = Keep(source=SOURCE, length=3)
        keep.put(number=0, line="x")
        keep.change(number=0, line="y")
        keep.take(number=0)
        self.assertEqual(keep.source(), SOURCE)

    def test_the_signatures_are_those_of_the_interface(self):
        told = {name: str(inspect.signature(method)) for name, method in vars(Keep).items()
                if not name.startswith("_")}
        self.assertEqual(told, {
            "put": "(self, number, line)", "take": "(self, number)", "change": "(self, number, line)",
            "source": "(self)", "pages": "(self)", "faults": "(self)", "read_so_far": "(self)",
        })
        self.assertIn("__eq__", vars(Keep))
        self.assertEqual(str(inspect.signature(Keep)), "(source, length)")
        self.assertEqual(Keep.__module__, "trapsetter.keep")


if __name__ == "__main__":
    unittest.main()
