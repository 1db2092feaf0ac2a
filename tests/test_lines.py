"""Tests of trapsetter.lines: point 6, and point 2 of its functions."""

import inspect
import unittest

from things import STRANGE
from trapsetter import lines
from trapsetter.errors import NoSource, SetError
from trapsetter.lines import (
    is_line, is_name, is_request, is_source, need_source, parts_of, rest_of, word_of,
)

SIGNS = "".join(chr(code) for code in range(32, 127))


class Lines(unittest.TestCase):
    def test_texts_of_at_most_sixty_signs(self):
        for line in ("", "a", " ", "~", ".br", "a" * 59, "a" * 60, " " * 60, "\\" * 60):
            self.assertIs(is_line(line), True, line)

    def test_sixty_one_signs_are_too_many(self):
        self.assertIs(is_line("a" * 61), False)
        self.assertIs(is_line(" " * 61), False)
        self.assertIs(is_line("a" * 5000), False)

    def test_each_sign_from_the_blank_to_the_last_one(self):
        self.assertIs(is_line(SIGNS[:60]), True)
        self.assertIs(is_line(SIGNS[35:]), True)
        for sign in SIGNS:
            self.assertIs(is_line("a" + sign), True, sign)

    def test_other_signs_are_none(self):
        for code in [*range(32), 127, 128, 133, 160, 233, 0x2028, 0x1F600]:
            for line in (chr(code), "a" + chr(code), chr(code) + "a", "a" + chr(code) + "a"):
                self.assertIs(is_line(line), False, code)

    def test_things_of_other_kinds_are_none(self):
        for thing in (*STRANGE, (), ("a",), 0, 1, 60):
            self.assertIs(is_line(thing), False, thing)


class Sources(unittest.TestCase):
    def test_tuples_of_at_most_sixty_lines(self):
        for source in ((), ("",), ("a", ".br"), ("a" * 60,) * 59, ("a" * 60,) * 60):
            self.assertIs(is_source(source), True)
            self.assertIsNone(need_source(source))

    def test_no_sources(self):
        things = [*STRANGE]
        things += [("a",) * 61, ("",) * 61, ("a" * 61,), ("a", "b" * 61), ("a\n",), ("a", None),
                   ["a"], ["a", "b"], "a", "", ".br", ("a", ("b",)), ("a", 0), ("a", True), 0, 1]
        for thing in things:
            self.assertIs(is_source(thing), False, thing)
            with self.assertRaises(NoSource):
                need_source(thing)

    def test_a_refusal_has_a_text_and_is_under_set_error(self):
        with self.assertRaises(SetError) as caught:
            need_source(["a"])
        self.assertIs(type(caught.exception), NoSource)
        self.assertNotEqual(str(caught.exception), "")

    def test_what_is_handed_in_stays(self):
        things = ["a", ["b"], {"c": 1}]
        for function in (is_line, is_source, is_name):
            function(things)
        with self.assertRaises(NoSource):
            need_source(things)
        self.assertEqual(things, ["a", ["b"], {"c": 1}])


class Requests(unittest.TestCase):
    def test_a_dot_and_a_small_letter(self):
        for letter in "abcdefghijklmnopqrstuvwxyz":
            self.assertIs(is_request("." + letter), True)
        for line in (".br", ".a", ".sp 3", ".abcdefgh", ".a1", ".a.b", ".br" + " " * 57):
            self.assertIs(is_request(line), True, line)

    def test_two_dots(self):
        for line in ("..", "...", ".. ", "..a", "..A", "..1", "....", ".. .."):
            self.assertIs(is_request(line), True, line)

    def test_others_are_text(self):
        for line in ("", ".", ".A", ".1", ". a", ". ", ".-", ".\\", ".~", " .a", "a", "a.b", "a..",
                     ".`", ".{", "-a", ".Br"):
            self.assertIs(is_request(line), False, line)


class Parts(unittest.TestCase):
    def test_the_word_is_without_the_dot_up_to_the_first_blank(self):
        told = {".br": "br", ".a": "a", "..": ".", "...": "..", ".sp 3": "sp", ".sp  3": "sp",
                ".a.b c": "a.b", ".. x": ".", ".br ": "br", r".a\tb c": r"a\tb", "..a": ".a"}
        for line, word in told.items():
            self.assertEqual(word_of(line), word, line)

    def test_the_rest_is_without_blanks_ahead(self):
        told = {".br": "", ".br ": "", ".br   ": "", ".sp 3": "3", ".sp    3": "3",
                ".sp   3  4  ": "3  4  ", "..": "", ".. x": "x", ".a b c": "b c",
                r".ta \t a\-b ": r"\t a\-b ", ".de" + " " * 56 + "x": "x"}
        for line, rest in told.items():
            self.assertEqual(rest_of(line), rest, line)

    def test_parts_stand_between_blanks(self):
        self.assertEqual(parts_of("a b c"), ["a", "b", "c"])
        self.assertEqual(parts_of("  a   b "), ["a", "b"])
        self.assertEqual(parts_of("a"), ["a"])
        self.assertEqual(parts_of(""), [])
        self.assertEqual(parts_of("    "), [])

    def test_strokes_marks_and_tabs_stand_as_they_stand(self):
        self.assertEqual(parts_of(r"a\tb \- \\ \t"), [r"a\tb", r"\-", r"\\", r"\t"])
        self.assertEqual(parts_of("\\ \\"), ["\\", "\\"])

    def test_told_parts_are_a_list_of_the_asker_s_own(self):
        told = parts_of("a b")
        self.assertIs(type(told), list)
        told.append("c")
        told[0] = ""
        self.assertEqual(parts_of("a b"), ["a", "b"])

    def test_told_are_texts(self):
        self.assertIs(type(word_of(".br")), str)
        self.assertIs(type(rest_of(".br")), str)


class Names(unittest.TestCase):
    def test_one_to_six_small_letters(self):
        for name in ("a", "z", "ab", "abc", "abcd", "abcde", "abcdef", "zzzzzz"):
            self.assertIs(is_name(name), True, name)

    def test_none_and_seven_letters_are_no_name(self):
        self.assertIs(is_name(""), False)
        self.assertIs(is_name("abcdefg"), False)
        self.assertIs(is_name("a" * 5000), False)

    def test_other_signs(self):
        for sign in [*SIGNS, "\n", "\t", chr(233), chr(0x430), chr(170)]:
            small = "a" <= sign <= "z"
            for name in (sign, "ab" + sign, sign + "ab", "a" + sign + "b"):
                self.assertIs(is_name(name), small, name)
        self.assertIs(is_name("abc\n"), False)
        self.assertIs(is_name("A"), False)

    def test_of_least_letters_at_least(self):
        for least in range(1, 7):
            for size in range(9):
                self.assertIs(is_name("a" * size, least=least), least <= size <= 6)
        self.assertIs(is_name("ab", least=3), False)
        self.assertIs(is_name("abc", least=3), True)
        self.assertIs(is_name("", least=0), False)
        self.assertIs(is_name("abC", least=3), False)

    def test_things_of_other_kinds_are_none(self):
        for thing in (*STRANGE, (), ("a",), ("a", "b", "c"), ["a"], {"a": 1}, 0, 1, 3):
            self.assertIs(is_name(thing), False, thing)
            self.assertIs(is_name(thing, least=3), False, thing)


class Arguments(unittest.TestCase):
    def test_by_their_places_and_by_their_names(self):
        self.assertIs(is_line(thing="a"), True)
        self.assertIs(is_source(thing=("a",)), True)
        self.assertIsNone(need_source(thing=("a",)))
        self.assertIs(is_request(line=".a"), True)
        self.assertEqual(word_of(line=".a b"), "a")
        self.assertEqual(rest_of(line=".a b"), "b")
        self.assertEqual(parts_of(rest="a b"), ["a", "b"])
        self.assertIs(is_name(thing="ab", least=2), True)

    def test_least_goes_by_its_name_alone(self):
        with self.assertRaises(TypeError):
            is_name("abc", 3)

    def test_the_signatures_are_those_of_the_interface(self):
        told = {name: str(inspect.signature(getattr(lines, name)))
                for name in ("is_line", "is_source", "need_source", "is_request", "word_of",
                             "rest_of", "parts_of", "is_name")}
        self.assertEqual(told, {
            "is_line": "(thing)", "is_source": "(thing)", "need_source": "(thing)",
            "is_request": "(line)", "word_of": "(line)", "rest_of": "(line)",
            "parts_of": "(rest)", "is_name": "(thing, *, least=1)",
        })

    def test_each_is_defined_in_its_file(self):
        for function in (is_line, is_source, need_source, is_request, word_of, rest_of, parts_of,
                         is_name):
            self.assertEqual(function.__module__, "trapsetter.lines")


if __name__ == "__main__":
    unittest.main()
