"""Tests of trapsetter.words: point 4, and point 2 of its functions."""

import inspect
import itertools
import re
import unittest

from trapsetter import words
from trapsetter.words import cells_of, pieces_of, plain_cells, words_of

STOPS = (8, 16, 24)


def tokens(text):
    return re.findall(r"\\[-t\\]|.", text)


def joined(found):
    cells = {r"\-": "", r"\\": "\\"}
    return "".join(cells.get(token, token) for token in found)


def expected_words(line):
    found = [[]]
    for token in tokens(line):
        if token in (" ", r"\t"):
            found.append([])
        else:
            found[-1].append(token)
    return ["".join(word) for word in found if joined(word)]


def expected_pieces(word):
    found = [""]
    for token in tokens(word):
        if token == r"\-":
            found.append("")
        else:
            found[-1] += token
    return found


def expected_plain(line, stops):
    cells = []
    for token in tokens(line):
        if token == r"\t":
            beyond = [stop for stop in stops if stop > len(cells)]
            cells += " " * ((beyond[0] if beyond else len(cells) + 1) - len(cells))
        else:
            cells += joined([token])
    return "".join(cells)


def short_texts(signs, most):
    for size in range(most + 1):
        for text in itertools.product(signs, repeat=size):
            yield "".join(text)


class Words(unittest.TestCase):
    def test_words_stand_between_blanks(self):
        self.assertEqual(words_of("one two  three"), ["one", "two", "three"])
        self.assertEqual(words_of("one"), ["one"])
        self.assertEqual(words_of("~!"), ["~!"])

    def test_a_line_without_signs_or_of_blanks_has_none(self):
        self.assertEqual(words_of(""), [])
        self.assertEqual(words_of(" "), [])
        self.assertEqual(words_of(" " * 60), [])

    def test_blanks_and_tabs_at_both_ends_and_mixed(self):
        self.assertEqual(words_of(r"  one  "), ["one"])
        self.assertEqual(words_of(r"\tone\t"), ["one"])
        self.assertEqual(words_of(r" \t \tone\t two \t"), ["one", "two"])
        self.assertEqual(words_of(r"\t\t \t"), [])

    def test_a_tab_parts_words_as_a_blank_does(self):
        self.assertEqual(words_of(r"a\tb"), ["a", "b"])
        self.assertEqual(words_of(r"a\t\tb"), ["a", "b"])

    def test_marks_alone_are_no_word(self):
        self.assertEqual(words_of(r"\-"), [])
        self.assertEqual(words_of(r"\-\- \-\t\-"), [])
        self.assertEqual(words_of(r"a \- b"), ["a", "b"])

    def test_marks_and_strokes_stand_as_they_are(self):
        self.assertEqual(words_of(r"\-a\-\-b\- c\\d"), [r"\-a\-\-b\-", r"c\\d"])

    def test_strokes_alone_are_words(self):
        self.assertEqual(words_of("\\"), ["\\"])
        self.assertEqual(words_of(r"\\"), [r"\\"])
        self.assertEqual(words_of("\\\\\\"), ["\\\\\\"])
        self.assertEqual(words_of("\\ \\"), ["\\", "\\"])

    def test_strokes_are_paired_from_the_left(self):
        self.assertEqual(words_of(r"a\\tb"), [r"a\\tb"])
        self.assertEqual(words_of(r"a\\\tb"), [r"a" + "\\\\", "b"])
        self.assertEqual(words_of(r"a\\\\tb"), [r"a\\\\tb"])
        self.assertEqual(words_of(r"\\-"), [r"\\-"])
        self.assertEqual(words_of("a\\ tb"), ["a\\", "tb"])

    def test_all_short_lines(self):
        for line in short_texts("\\-t a", 6):
            self.assertEqual(words_of(line), expected_words(line), line)

    def test_a_line_of_sixty_signs(self):
        self.assertEqual(words_of("ab " * 20), ["ab"] * 20)
        self.assertEqual(words_of("a" * 60), ["a" * 60])
        self.assertEqual(words_of(r"a\t" * 20), ["a"] * 20)

    def test_told_is_a_list_of_the_asker_s_own(self):
        told = words_of("one two")
        self.assertIs(type(told), list)
        self.assertEqual([type(word) for word in told], [str, str])
        told.append("three")
        told[0] = "none"
        self.assertEqual(words_of("one two"), ["one", "two"])


class Cells(unittest.TestCase):
    def test_marks_are_no_cells(self):
        self.assertEqual(cells_of("one"), "one")
        self.assertEqual(cells_of(r"\-o\-\-ne\-"), "one")
        self.assertEqual(cells_of(r"\-"), "")
        self.assertEqual(cells_of(r"\-\-"), "")
        self.assertEqual(cells_of(""), "")

    def test_two_strokes_are_one_cell(self):
        self.assertEqual(cells_of(r"a\\b"), "a\\b")
        self.assertEqual(cells_of(r"\\"), "\\")
        self.assertEqual(cells_of(r"\\\\"), "\\\\")
        self.assertEqual(cells_of(r"\\-"), "\\-")
        self.assertEqual(cells_of(r"\\t"), "\\t")

    def test_three_strokes_are_two_cells(self):
        self.assertEqual(cells_of("\\\\\\"), "\\\\")
        self.assertEqual(cells_of("\\\\\\a"), "\\\\a")
        self.assertEqual(cells_of(r"\\\-"), "\\")

    def test_other_strokes_stand_for_themselves(self):
        self.assertEqual(cells_of("\\"), "\\")
        self.assertEqual(cells_of("a\\"), "a\\")
        for sign in "aTn-~!0\"'.":
            if sign != "-":
                self.assertEqual(cells_of("\\" + sign), "\\" + sign)

    def test_all_short_words(self):
        for word in short_texts("\\-a", 7):
            self.assertEqual(cells_of(word), joined(tokens(word)), word)


class Pieces(unittest.TestCase):
    def test_marks_part_the_word(self):
        self.assertEqual(pieces_of("one"), ["one"])
        self.assertEqual(pieces_of(r"syl\-la\-ble"), ["syl", "la", "ble"])

    def test_empty_pieces_are_told_too(self):
        self.assertEqual(pieces_of(r"\-one"), ["", "one"])
        self.assertEqual(pieces_of(r"one\-"), ["one", ""])
        self.assertEqual(pieces_of(r"o\-\-ne"), ["o", "", "ne"])
        self.assertEqual(pieces_of(r"\-"), ["", ""])
        self.assertEqual(pieces_of(r"\-\-"), ["", "", ""])
        self.assertEqual(pieces_of(""), [""])

    def test_strokes_stand_as_they_are(self):
        self.assertEqual(pieces_of(r"a\\b"), [r"a\\b"])
        self.assertEqual(pieces_of(r"a\\\-b"), ["a\\\\", "b"])
        self.assertEqual(pieces_of(r"a\\-b"), [r"a\\-b"])
        self.assertEqual(pieces_of("a\\-b\\"), ["a", "b\\"])
        self.assertEqual(pieces_of("\\a"), ["\\a"])
        self.assertEqual(pieces_of("\\\\\\"), ["\\\\\\"])

    def test_all_short_words(self):
        for word in short_texts("\\-a", 7):
            self.assertEqual(pieces_of(word), expected_pieces(word), word)

    def test_told_is_a_list_of_the_asker_s_own(self):
        told = pieces_of(r"a\-b")
        self.assertIs(type(told), list)
        told[0] = "none"
        told.append("c")
        self.assertEqual(pieces_of(r"a\-b"), ["a", "b"])


class PlainCells(unittest.TestCase):
    def test_signs_and_blanks_stand_as_they_are(self):
        self.assertEqual(plain_cells("  one  two ", STOPS), "  one  two ")
        self.assertEqual(plain_cells("", STOPS), "")

    def test_marks_are_left_out_and_two_strokes_are_one(self):
        self.assertEqual(plain_cells(r"\-a\-\-b\-", STOPS), "ab")
        self.assertEqual(plain_cells(r"\-\-", STOPS), "")
        self.assertEqual(plain_cells(r"\\ \\t \\- \x", STOPS), r"\ \t \- \x")
        self.assertEqual(plain_cells("a\\", STOPS), "a\\")
        self.assertEqual(plain_cells("\\\\\\", STOPS), "\\\\")

    def test_a_tab_leads_to_the_next_stop(self):
        self.assertEqual(plain_cells(r"\ta", STOPS), " " * 8 + "a")
        self.assertEqual(plain_cells(r"one\ta", STOPS), "one     a")
        self.assertEqual(plain_cells(r"1234567\ta", STOPS), "1234567 a")
        self.assertEqual(plain_cells(r"a\tb\tc\td", STOPS), "a       b       c       d")
        self.assertEqual(plain_cells(r"a\t", STOPS), "a" + " " * 7)

    def test_a_tab_just_at_a_stop_leads_to_the_one_beyond(self):
        self.assertEqual(plain_cells(r"12345678\ta", STOPS), "12345678" + " " * 8 + "a")
        self.assertEqual(plain_cells(r"\t\ta", STOPS), " " * 16 + "a")
        self.assertEqual(plain_cells(r"a\tb", (1, 2)), "a b")
        self.assertEqual(plain_cells(r"\tb", (1, 2)), " b")

    def test_a_tab_beyond_the_last_stop_is_one_blank(self):
        self.assertEqual(plain_cells("a" * 24 + r"\tb\t\tc", STOPS), "a" * 24 + " b  c")
        self.assertEqual(plain_cells("a" * 30 + r"\tb", STOPS), "a" * 30 + " b")
        self.assertEqual(plain_cells(r"\t\t\ta\t\t", (3,)), "     a  ")
        self.assertEqual(plain_cells(r"a\tb", ()), "a b")

    def test_stops_are_counted_in_cells(self):
        self.assertEqual(plain_cells(r"a\-b\\\tc", (4, 6)), "ab\\ c")
        self.assertEqual(plain_cells(r" \t a", (4,)), "     a")

    def test_two_strokes_ahead_of_a_t_are_no_tab(self):
        self.assertEqual(plain_cells(r"a\\tb", STOPS), r"a\tb")
        self.assertEqual(plain_cells(r"a\\\tb", STOPS), "a\\      b")

    def test_all_short_lines(self):
        for stops in ((2, 3), (1, 4, 5)):
            for line in short_texts("\\-t a", 6):
                self.assertEqual(plain_cells(line, stops), expected_plain(line, stops), line)

    def test_a_line_of_sixty_signs(self):
        self.assertEqual(plain_cells(r"\t" * 30, STOPS), " " * 51)
        self.assertEqual(plain_cells(r"\t" * 30, (60,)), " " * 89)


class Arguments(unittest.TestCase):
    def test_by_their_places_and_by_their_names(self):
        self.assertEqual(words_of(line="a b"), words_of("a b"))
        self.assertEqual(cells_of(word=r"a\-b"), cells_of(r"a\-b"))
        self.assertEqual(pieces_of(word=r"a\-b"), pieces_of(r"a\-b"))
        self.assertEqual(plain_cells(line=r"\ta", stops=(2,)), plain_cells(r"\ta", (2,)))
        self.assertEqual(plain_cells(r"\ta", stops=(2,)), "  a")

    def test_the_signatures_are_those_of_the_interface(self):
        told = {name: str(inspect.signature(getattr(words, name)))
                for name in ("words_of", "cells_of", "pieces_of", "plain_cells")}
        self.assertEqual(told, {
            "words_of": "(line)", "cells_of": "(word)",
            "pieces_of": "(word)", "plain_cells": "(line, stops)",
        })

    def test_each_is_defined_in_its_file(self):
        for function in (words_of, cells_of, pieces_of, plain_cells):
            self.assertEqual(function.__module__, "trapsetter.words")

    def test_answers_are_of_plain_kinds(self):
        self.assertIs(type(cells_of("a")), str)
        self.assertIs(type(plain_cells("a", STOPS)), str)
        self.assertIs(type(pieces_of("a")[0]), str)


if __name__ == "__main__":
    unittest.main()
