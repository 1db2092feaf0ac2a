"""Tests of a setter: point 20, and points 2 and 3 as they bear on it."""

import inspect
import unittest

from whole import Case, ended_by, macro, told_by
from things import STRANGE
from trapsetter import setter as module
from trapsetter.errors import NoPage, NoSource, Over
from trapsetter.setter import Setter, set_source

SOURCE = (
    *macro("abc", ".nf", r"\R(+x):\A(0)", ".fi"), ".nr x 1 2", ".af x i", ".wh 2 abc", ".ds bcd text",
    r"some words and a \S(bcd) of more", ".di cde", "led aside", ".di", ".fl", "held", "", "more", ".ef",
    ".ev e", "other", ".ev", "the end", ".zz",
)

ENDLESS = (*macro("abc", ".abc", ".abc"), "a", ".br", ".abc", "b", "c")


def state_of(setter):
    return (setter.length(), setter.pages(), setter.stands(), setter.faults(), setter.lines_read(),
            setter.value("x"), setter.value("pn"), setter.names(), setter.traps())


class Told(Case):
    def test_at_first(self):
        self.assertEqual(state_of(Setter(7)), (7, [], (), [], 0, "0", "1", {}, ()))

    def test_as_it_goes_on(self):
        setter = told_by(3, ".nf", "a", ".wh 2 abc", "b")
        self.assertEqual(state_of(setter)[1:5], ([], ("a", "b"), [(3, (), "unknown")], 4))
        setter.read("c")
        self.assertEqual((setter.pages(), setter.stands()), ([("a", "b", "c")], ()))
        self.assertEqual(setter.page(0), ("a", "b", "c"))
        setter.read("d")
        self.assertEqual((setter.pages(), setter.stands()), ([("a", "b", "c")], ("d",)))
        self.assertIsNone(setter.end())
        self.assertEqual((setter.pages(), setter.stands()), ([("a", "b", "c"), ("d", "", "")], ()))
        self.assertEqual(setter.page(1), ("d", "", ""))

    def test_words_that_wait_and_what_is_led_aside_do_not_stand_on_the_page(self):
        self.assertEqual(told_by(3, "a", ".di abc", "b", ".br").stands(), ("a",))
        self.assertEqual(told_by(3, "a").stands(), ())

    def test_names_rise(self):
        setter = told_by(9, ".ds xyz a", ".ds abc b", *macro("def", "c"), ".di bcd", ".di")
        self.assertEqual(list(setter.names().items()),
                         [("abc", "string"), ("bcd", "leaf"), ("def", "macro"), ("xyz", "string")])

    def test_more_lines_than_a_source_has(self):
        setter = told_by(40, *(".br",) * 100, ".de abc", *("a",) * 100, "..", ".zz")
        self.assertEqual((setter.faults(), setter.names()), ([(202, (), "unknown")], {"abc": "macro"}))

    def test_lines_of_a_macro_count_among_the_source_s_and_are_not_read(self):
        setter = told_by(9, ".de abc", "a", "b", "..", ".zz")
        self.assertEqual((setter.lines_read(), setter.faults()), (2, [(4, (), "unknown")]))
        setter = told_by(9, ".de abc", "a", "b")
        self.assertEqual((setter.lines_read(), setter.names(), setter.stands()), (1, {}, ()))

    def test_read_tells_none(self):
        setter = Setter(3)
        for line in ("a", ".br", ".zz", ""):
            self.assertIsNone(setter.read(line))

    def test_of_plain_kinds(self):
        setter = told_by(2, *SOURCE)
        self.assertIs(type(setter.pages()), list)
        self.assertTrue(all(type(page) is tuple for page in setter.pages()))
        self.assertIs(type(setter.stands()), tuple)
        self.assertIs(type(setter.faults()), list)
        self.assertTrue(all(type(fault) is tuple and type(fault[1]) is tuple
                            for fault in setter.faults()))
        self.assertIs(type(setter.names()), dict)
        self.assertIs(type(setter.traps()), tuple)
        self.assertIs(type(setter.value("x")), str)
        self.assertIs(type(setter.lines_read()), int)

    def test_told_lists_and_dicts_are_the_asker_s_own(self):
        setter = told_by(2, *SOURCE)
        before = state_of(setter)
        kept = (list(setter.pages()), list(setter.faults()), dict(setter.names()))
        told = (setter.pages(), setter.faults(), setter.names())
        for thing in told:
            thing.clear()
        setter.pages().append(("x",))
        setter.names()["zzz"] = "macro"
        self.assertEqual(state_of(setter), before)
        self.assertEqual((setter.pages(), setter.faults(), setter.names()), kept)
        older = setter.pages(), setter.faults(), setter.names()
        copies = (list(older[0]), list(older[1]), dict(older[2]))
        for line in (".nf", "a", "b", "c", ".zz", ".ds zzz a"):
            setter.read(line)
        setter.end()
        self.assertEqual(older, copies)
        self.assertNotEqual(setter.pages(), copies[0])


class Asked(Case):
    def test_page_of_no_number(self):
        setter = told_by(2, ".nf", "a", "b", "c", "d", "e")
        self.assertEqual([setter.page(0), setter.page(1)], [("a", "b"), ("c", "d")])
        for thing in (*STRANGE, 2, 3, -1, -2, "0", "", (0,), [0], (), 10 ** 50):
            with self.assertRaises(NoPage):
                setter.page(thing)
        for thing in (0, False, None):
            with self.assertRaises(NoPage):
                Setter(2).page(thing)

    def test_value_of_no_name(self):
        setter = told_by(2, ".nr x 4", ".af x i", ".nr abcdef 5", ".ds abc x")
        self.assertEqual((setter.value("x"), setter.value("abcdef")), ("iv", "5"))
        for thing in (*STRANGE, "", "y", "abcdefg", "X", "abc", 0, 1, ("x",), ["x"], {"x": 1}, "x ", "+x"):
            self.assertEqual(setter.value(thing), "0", thing)

    def test_of_no_length(self):
        for length in (1, 2, 39, 40):
            self.assertEqual(Setter(length).length(), length)
            self.assertEqual(set_source(("a",), length)[0], [("a", *[""] * (length - 1))])
        for thing in (*STRANGE, 0, 41, -1, "5", "", (5,), [5], 10 ** 80):
            with self.assertRaises(NoSource):
                Setter(thing)
            with self.assertRaises(NoSource):
                set_source(("a",), thing)

    def test_read_of_no_line(self):
        setter = told_by(2, *SOURCE)
        before = state_of(setter)
        for thing in (*STRANGE, 0, 5, (), ("a",), "a" * 61, "a\n", "\x7f", "\u00e9"):
            with self.assertRaises(NoSource):
                setter.read(thing)
        self.assertEqual(state_of(setter), before)
        setter.read(".zz")
        self.assertEqual(setter.faults()[-1], (len(SOURCE), (), "unknown"))

    def test_set_source_of_no_source(self):
        for thing in (*STRANGE, ["a"], "a", ("a",) * 61, ("a\n",), 0, 5):
            for length in (5, 0, None):
                with self.assertRaises(NoSource):
                    set_source(thing, length)


class Ended(Case):
    def test_it_takes_no_more(self):
        setter = told_by(2, "a")
        setter.end()
        before = state_of(setter)
        for thing in ("b", "", "a" * 61, None, 5, ["b"]):
            with self.assertRaises(Over):
                setter.read(thing)
        with self.assertRaises(Over):
            setter.end()
        self.assertEqual(state_of(setter), before)

    def test_endless_it_takes_no_more(self):
        setter = told_by(3, *ENDLESS[:6])
        self.assertIsNone(setter.read(ENDLESS[6]))
        self.assertEqual((setter.pages(), setter.stands(), setter.lines_read()), ([("a", "", "")], (), 501))
        self.assertEqual([fault[2] for fault in setter.faults()].count("endless"), 1)
        before = state_of(setter)
        for thing in ("b", None):
            with self.assertRaises(Over):
                setter.read(thing)
        with self.assertRaises(Over):
            setter.end()
        self.assertEqual(state_of(setter), before)

    def test_a_refused_end_is_none_the_less_an_end(self):
        pages, faults = set_source(ENDLESS, 3)
        self.assertEqual((pages, faults[-1][2]), ([("a", "", "")], "endless"))


class Twins(Case):
    def test_they_go_on_by_themselves(self):
        for source in (SOURCE, ENDLESS):
            whole = set_source(source, 3)
            setter = Setter(3)
            twins = [setter.twin()]
            for line in source:
                try:
                    setter.read(line)
                except Over:
                    pass
                twins.append(setter.twin())
            for number, twin in enumerate(twins):
                self.assertIsInstance(twin, Setter)
                try:
                    for line in source[number:]:
                        twin.read(line)
                    twin.end()
                except Over:
                    pass
                self.assertEqual((twin.pages(), twin.faults()), whole, number)
            self.assertEqual(ended_by(setter), whole[0])

    def test_neither_changes_the_other(self):
        for number in range(len(SOURCE)):
            setter = told_by(3, *SOURCE[:number])
            before = state_of(setter)
            twin = setter.twin()
            self.assertEqual(state_of(twin), before)
            for line in ("x", ".br", "..", ".nr x 9", ".ds abc y", ".wh 1 abc", ".ev", ".di", ".ef", ".sp 9",
                         ".nr pn 7", ".di zzz", ".fl", "y", ".zz"):
                twin.read(line)
            twin.end()
            self.assertEqual(state_of(setter), before, number)
            twin = setter.twin()
            kept = state_of(twin)
            setter.read("..")
            setter.end()
            self.assertEqual(state_of(twin), kept, number)

    def test_a_twin_of_one_set_at_a_width(self):
        setter = told_by(3, ".br", width=4)
        twin = setter.twin()
        for line in (".wd 9", "ab cd"):
            twin.read(line)
        self.assertEqual(twin.stands(), ("ab",))


class Widths(Case):
    def test_the_first_environment_has_it_at_first(self):
        self.assertEqual(told_by(9, "a b c", ".br", width=3).stands(), ("a b", "c"))
        self.assertEqual(told_by(9, "a b c", ".br").stands(), ("a b c",))
        self.assertEqual(told_by(9, "a b c", ".br", width=None).stands(), ("a b c",))
        self.assertEqual(told_by(9, ".ev e", "a b c", ".br", width=3).stands(), ("a b c",))
        self.assertEqual(told_by(9, "a b", ".br", width=1).stands(), ("a", "b"))
        self.assertEqual(told_by(9, "x" * 40, ".br", width=40).faults(), [])

    def test_wd_of_a_number_alone_does_nothing(self):
        for lines in ((".wd 9",), (".wd 9 x",), (".ev e", ".wd 9", ".ev")):
            setter = told_by(9, "a b", *lines, "c", ".br", width=3)
            self.assertEqual((setter.stands(), setter.faults()), (("a b", "c"), []))
        self.assertEqual(told_by(9, "a", ".wd 9", "b", width=3).stands(), ())
        self.assertEqual(told_by(9, "a", ".wd 9", "b", width=None).stands(), ("a",))

    def test_wd_with_a_sign_goes_on(self):
        self.assertEqual(told_by(9, "a", ".wd +2", "b c d", ".br", width=3).stands(), ("a", "b c d"))
        self.assertEqual(told_by(9, "a", ".wd -1", "b c d", ".br", width=4).stands(), ("a", "b c", "d"))

    def test_wd_of_wrong_parts_is_a_fault(self):
        setter = told_by(9, ".wd", ".wd x", ".wd 12345", ".wd +", width=3)
        self.assertEqual([fault[2] for fault in setter.faults()], ["parts"] * 4)

    def test_a_source_set_at_a_width(self):
        self.assertEqual(set_source((".wd 9", "a b c"), 2, width=3), ([("a b", "c")], []))
        self.assertEqual(set_source((".wd 9", "a b c"), 2), ([("a b c", "")], []))


class Arguments(Case):
    def test_by_their_names(self):
        setter = Setter(length=3, width=9)
        setter.read(line=".nr x 5")
        self.assertEqual(setter.value(name="x"), "5")
        setter.read(line=".bp")
        self.assertEqual(setter.page(number=0), ("", "", ""))
        self.assertEqual(set_source(source=("a",), length=1, width=None), ([("a",)], []))

    def test_a_width_goes_by_its_name_alone(self):
        with self.assertRaises(TypeError):
            Setter(3, 9)
        with self.assertRaises(TypeError):
            set_source((), 3, 9)

    def test_the_signatures_are_those_of_the_interface(self):
        told = {name: str(inspect.signature(method)) for name, method in vars(Setter).items()
                if not name.startswith("_")}
        self.assertEqual(told, {
            "read": "(self, line)", "end": "(self)", "twin": "(self)", "length": "(self)",
            "pages": "(self)", "page": "(self, number)", "stands": "(self)", "faults": "(self)",
            "lines_read": "(self)", "value": "(self, name)", "names": "(self)", "traps": "(self)",
        })
        self.assertEqual(str(inspect.signature(Setter)), "(length, *, width=None)")
        self.assertEqual(str(inspect.signature(module.set_source)), "(source, length, *, width=None)")
        self.assertEqual((Setter.__module__, set_source.__module__), ("trapsetter.setter",) * 2)


if __name__ == "__main__":
    unittest.main()
