"""Tests of a desk: point 27, and point 2 as it bears on it."""

import inspect
import unittest

from things import STRANGE
from trapsetter.desk import Desk
from trapsetter.errors import NoText
from trapsetter.setter import Setter


def told(*texts):
    """A desk that these lines were said to."""
    desk = Desk()
    for text in texts:
        desk.say(text)
    return desk


def seen(desk):
    """All that a desk answers about what it has."""
    return tuple(desk.say(text) for text in (
        "here", "faults", "page 0", "page 1", "page 2", "value pn", "value x", "value vp"))


class Case(unittest.TestCase):
    maxDiff = None

    def assert_talk(self, *talk, desk=None):
        """Each of the talk is what is said, and the answer."""
        desk = Desk() if desk is None else desk
        for number, (text, answer) in enumerate(talk):
            self.assertEqual(desk.say(text), answer, (number, text))
        return desk

    def assert_no_text(self, desk, *things):
        for thing in things:
            with self.assertRaises(NoText) as caught:
                desk.say(thing)
            self.assertIsNone(caught.exception.at, thing)


class Lines(Case):
    def test_answered_by_how_many_pages_are_ended(self):
        self.assert_talk(("line a", "0"), ("line .bp", "1"), ("line .sp 9", "1"), ("line .sp", "2"), ("line .br", "2"))

    def test_the_rest_as_it_stands_behind_one_blank(self):
        self.assert_talk(("line .nf", "0"), ("line  a  b ", "0"), ("line x", "0"), ("here", " a  b  / x"))
        self.assert_talk(("line .nf", "0"), ("line line", "0"), ("line end", "0"), ("here", "line / end"))
        # With a blank ahead it is no request.
        self.assert_talk(("line .nf", "0"), ("line  .br", "0"), ("here", " .br"), ("faults", "-"))

    def test_the_line_without_signs(self):
        for text in ("line", "line "):
            self.assert_talk(("line a", "0"), (text, "0"), ("here", "a / "))
        self.assert_talk(("line .nf", "0"), ("line  ", "0"), ("line", "0"), ("here", "  / "))

    def test_what_is_no_line(self):
        self.assert_talk(("line " + "x" * 60, "0"), ("line " + "x" * 61, "refused NoSource"),
                         ("line a\tb", "refused NoSource"), ("line \t", "refused NoSource"), ("faults", "0 - long"))

    def test_behind_the_end(self):
        self.assert_talk(("end", "0"), ("line a", "refused Over"), ("line", "refused Over"),
                         ("line " + "x" * 61, "refused Over"), ("line a\tb", "refused Over"))

    def test_behind_an_endless(self):
        desk = told("line .de abc", "line .abc", "line .abc", "line ..", "line a", "line .br")
        self.assertEqual(desk.say("line .abc"), "1")
        self.assert_talk(("line a", "refused Over"), ("end", "refused Over"), ("page 0", "a" + " / " * 9),
                         ("here", "-"), desk=desk)

    def test_more_lines_than_a_source_has(self):
        desk = told(*("line .br",) * 70, "line .zz")
        self.assertEqual(desk.say("faults"), "70 - unknown")


class Pages(Case):
    def test_of_an_ended_page_and_of_others(self):
        desk = told("line .nf", "line a", "line", "line  b", "line .bp", "line c", "line .bp", "line d")
        self.assert_talk(("page 0", "a /  /  b" + " / " * 7), ("page 1", "c" + " / " * 9), ("page 2", "refused NoPage"),
                         ("page 3", "refused NoPage"), ("page 9999", "refused NoPage"), desk=desk)
        self.assert_talk(("end", "3"), ("page 2", "d" + " / " * 9), ("page 3", "refused NoPage"), desk=desk)

    def test_of_none_where_none_is_ended(self):
        self.assert_talk(("page 0", "refused NoPage"), ("page 1", "refused NoPage"))

    def test_of_one_line(self):
        self.assert_talk(("fresh 1", "ok"), ("line .sp", "1"), ("page 0", ""), ("line a", "1"), ("end", "2"),
                         ("page 1", "a"))

    def test_of_two_figures(self):
        desk = told("fresh 1", *("line .sp",) * 10, "line a", "line .br")
        self.assert_talk(("page 9", ""), ("page 10", "a"), ("page 11", "refused NoPage"), desk=desk)

    def test_here(self):
        self.assert_talk(("here", "-"), ("line a", "0"), ("here", "-"), ("line .br", "0"), ("here", "a"),
                         ("line .sp 2", "0"), ("here", "a /  / "), ("line .bp", "1"), ("here", "-"))
        self.assert_talk(("line", "0"), ("here", ""), ("line", "0"), ("here", " / "), ("end", "1"), ("here", "-"))
        # A line that is a minus is told as none is.
        self.assert_talk(("line .nf", "0"), ("line -", "0"), ("here", "-"))


class Faults(Case):
    def test_none_and_several(self):
        self.assert_talk(("faults", "-"), ("line .zz", "0"), ("faults", "0 - unknown"), ("line .wd", "0"),
                         ("line .ev", "0"),
                         ("faults", "0 - unknown / 1 - parts / 2 - first"))

    def test_with_calls(self):
        desk = told("line .de abc", "line .bcd", "line .zz", "line ..", "line .de bcd", "line .rm x", "line ..",
                    "line .abc")
        self.assertEqual(desk.say("faults"), "7 abc,bcd parts / 7 abc unknown")

    def test_behind_the_end(self):
        desk = told("line .de abc", "end")
        self.assertEqual(desk.say("faults"), "1 - open")


class Values(Case):
    def test_of_a_register_that_is_there_and_is_not(self):
        self.assert_talk(("value x", "0"), ("line .nr x 14", "0"), ("value x", "14"), ("line .af x i", "0"),
                         ("value x", "xiv"),
                         ("value y", "0"), ("line .nr y -3", "0"), ("line .af y 01", "0"), ("value y", "-03"),
                         ("value pn", "1"), ("line .bp", "1"), ("value pn", "2"), ("value vp", "0"), ("line", "1"),
                         ("value vp", "1"))

    def test_of_what_is_no_name(self):
        desk = told("line .nr x 5", "line .nr abcdef 6")
        self.assertEqual(desk.say("value abcdef"), "6")
        for name in ("X", "abcdefg", "x1", "-", "1", "~", "\\", '"', "+x", "x/y", "a" * 100):
            self.assertEqual(desk.say("value " + name), "0", name)

    def test_of_no_sign_or_with_blanks(self):
        self.assert_no_text(told("line .nr x 5"), "value", "value ", "value  ", "value  x", "value x ", "value x y",
                            "value x\t", "value \t", "value \x7f", "value \u00e9", "value x\n", "value \n")


class Ends(Case):
    def test_once_and_twice(self):
        self.assert_talk(("end", "0"), ("end", "refused Over"))
        self.assert_talk(("line a", "0"), ("end", "1"), ("end", "refused Over"), ("page 0", "a" + " / " * 9),
                         ("faults", "-"))
        self.assert_talk(("line .bp", "1"), ("line a", "1"), ("end", "2"))

    def test_fresh(self):
        desk = told("line .zz", "line a", "line .nr x 4", "line .bp")
        self.assert_talk(("fresh 10", "ok"), desk=desk)
        self.assertEqual(seen(desk), seen(Desk()))
        self.assert_talk(("end", "0"), ("fresh 2", "ok"), ("line .sp 2", "1"), ("page 0", " / "), ("end", "1"),
                         desk=desk)

    def test_fresh_of_every_length(self):
        for length in range(1, 41):
            self.assert_talk((f"fresh {length}", "ok"), ("line a", "0"), ("end", "1"),
                             ("page 0", "a" + " / " * (length - 1)))

    def test_fresh_of_no_length(self):
        desk = told("fresh 3", "line a", "line .sp", "line .zz")
        before = seen(desk)
        for number in ("0", "41", "42", "99", "100", "9999"):
            self.assertEqual(desk.say("fresh " + number), "refused NoSource")
        self.assertEqual(seen(desk), before)
        self.assertEqual(desk.say("line .sp"), "1")

    def test_at_first_pages_have_ten_lines(self):
        self.assert_talk(("line .sp 9", "0"), ("line .sp", "1"), ("page 0", " / " * 9))


class Refused(Case):
    def test_what_is_no_text(self):
        desk = told("line .nf", "line a")
        before = seen(desk)
        for thing in (*STRANGE, 0, 5, (), ("here",), ["here"], {"here": 1}, b"here"):
            self.assert_no_text(desk, thing)
        self.assertEqual(seen(desk), before)

    def test_any_other_line(self):
        desk = told("line .nf", "line a", "line .bp", "line b", "line .zz")
        before = seen(desk)
        self.assert_no_text(
            desk, "", " ", "-", "a", ".br", "lines", "line\t", "line\ta", "lin e", "linea", "fault", "faultss", "heres",
            "ends", "fresh", "page", "value", "pages 0", "names", "traps", "twin", "ok", "refused NoText", "here,",
            "line.")
        self.assertEqual(seen(desk), before)

    def test_numbers_that_are_none(self):
        desk = told("line .bp")
        before = seen(desk)
        for word in ("page", "fresh"):
            self.assert_no_text(desk, *[f"{word} {rest}" for rest in (
                "", " ", "00", "01", "007", "0000", "10000", "12345", "00001", "+1", "-1", "-0", "1.0", "x", "1x",
                "x1", "1 2",
                "1,", "i", "0x1", "1_0", "\u0661", "\u00b2", "1\t", "\t1", "1e1")])
        self.assertEqual(seen(desk), before)

    def test_blanks_ahead_and_behind_and_two_where_one_is_told(self):
        desk = told("line .bp")
        before = seen(desk)
        for text in ("line a", "line", "page 0", "here", "faults", "value x", "end", "fresh 3"):
            self.assert_no_text(desk, " " + text)
            if not text.startswith("line"):
                self.assert_no_text(desk, text + " ", text + "  ",
                                    text.replace(" ", "  ") + ("" if " " in text else " x"))
        self.assertEqual(seen(desk), before)

    def test_great_letters(self):
        desk = told("line .bp")
        before = seen(desk)
        for text in ("line a", "line", "page 0", "here", "faults", "value x", "end", "fresh 3"):
            self.assert_no_text(desk, text.upper(), text.capitalize(), text[0] + text[1].upper() + text[2:])
        self.assertEqual(seen(desk), before)

    def test_a_line_end_within(self):
        desk = told("line .bp")
        before = seen(desk)
        for text in ("line a", "line", "page 0", "here", "faults", "value x", "end", "fresh 3"):
            self.assert_no_text(desk, text + "\n", "\n" + text, text + "\nhere", text[:2] + "\n" + text[2:])
        self.assert_no_text(desk, "line a\nb", "line \n", "line " + "x" * 70 + "\n", "\n")
        self.assertEqual(seen(desk), before)
        desk.say("end")
        self.assert_no_text(desk, "line a\n", "end\n")

    def test_a_line_that_is_refused_changes_nothing(self):
        desk = told("line .nf", "line a", "line .nr x 3", "line .de abc")
        before = seen(desk)
        for text in ("line " + "x" * 61, "line a\tb", "page 0", "fresh 0", "fresh 41"):
            self.assertTrue(desk.say(text).startswith("refused "))
        self.assert_no_text(desk, "lines", None, "line a\n", "fresh 01")
        self.assertEqual(seen(desk), before)
        # The lines that were refused count for nothing.
        self.assert_talk(("line b", "0"), ("line ..", "0"), ("line .abc", "0"), ("here", "a / b"), ("line .zz", "0"),
                         ("faults", "7 - unknown"), desk=desk)


class Side(Case):
    def test_two_desks_side_by_side(self):
        one, other = Desk(), Desk()
        self.assertEqual([one.say("fresh 1"), one.say("line a"), other.say("line b"), one.say("line .br")],
                         ["ok", "0", "0", "1"])
        self.assertEqual((one.say("page 0"), other.say("page 0"), other.say("here")), ("a", "refused NoPage", "-"))
        self.assertEqual((other.say("line .br"), other.say("here"), one.say("here")), ("0", "b", "-"))
        one.say("end")
        self.assertEqual((one.say("line c"), other.say("line c")), ("refused Over", "0"))

    def test_the_class(self):
        self.assertEqual(str(inspect.signature(Desk)), "()")
        self.assertEqual(str(inspect.signature(Desk.say)), "(self, text)")
        self.assertIn("say", vars(Desk))
        self.assertEqual(Desk.__module__, "trapsetter.desk")
        self.assertEqual(Desk().say(text="here"), "-")
        self.assertIs(type(Desk().say("end")), str)

    def test_it_answers_as_a_setter(self):
        desk, setter = Desk(), Setter(10)
        for line in (".de abc", "x", "..", ".wh 2 abc", "a", ".br", "b", ".br", "c", ".nr x 3", ".sp 3", ".zz", ".bp",
                     "d"):
            setter.read(line)
            self.assertEqual(desk.say("line " + line), str(len(setter.pages())))
            self.assertEqual(desk.say("here"), " / ".join(setter.stands()) if setter.stands() else "-")
            self.assertEqual(desk.say("value x"), setter.value("x"))
        setter.end()
        self.assertEqual(desk.say("end"), str(len(setter.pages())))
        self.assertEqual(desk.say("page 0"), " / ".join(setter.page(0)))


if __name__ == "__main__":
    unittest.main()
