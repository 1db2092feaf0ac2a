"""Tests of trapsetter.filling: points 8 and 9, and point 2 of its functions."""

import inspect
import itertools
import unittest

from trapsetter import filling
from trapsetter.filling import broken, fresh, room_of, set_plain, with_word
from trapsetter.words import words_of

STOPS = (8, 16, 24)


def made(width, waiting=(), indent=0, once=None, is_filled=True, stops=STOPS):
    return width, indent, once, is_filled, stops, tuple(waiting)


def filled(environment, text):
    """The lines that come of the words of a text, and the environment left."""
    lines = []
    for word in words_of(text):
        while word is not None:
            environment, line, word, _ = with_word(environment, word)
            if line is not None:
                lines.append(line)
    return lines, environment


class Fresh(unittest.TestCase):
    def test_at_first(self):
        self.assertEqual(fresh(), (20, 0, None, True, (8, 16, 24), ()))
        self.assertEqual(fresh(7), (7, 0, None, True, (8, 16, 24), ()))
        self.assertEqual(fresh(width=40), (40, 0, None, True, (8, 16, 24), ()))

    def test_of_plain_kinds(self):
        kinds = [type(part) for part in fresh()]
        self.assertEqual(kinds, [int, int, type(None), bool, tuple, tuple])
        self.assertIs(type(fresh()), tuple)


class Room(unittest.TestCase):
    def test_the_width_less_the_indent(self):
        self.assertEqual(room_of(fresh()), 20)
        self.assertEqual(room_of(made(20, indent=5)), 15)
        self.assertEqual(room_of(made(40, indent=20)), 20)

    def test_less_the_indent_for_one_line_where_there_is_one(self):
        self.assertEqual(room_of(made(20, indent=5, once=8)), 12)
        self.assertEqual(room_of(made(20, indent=5, once=0)), 20)
        self.assertEqual(room_of(made(20, indent=0, once=20)), 1)

    def test_one_at_least(self):
        for width in range(1, 41):
            for indent in range(21):
                self.assertEqual(room_of(made(width, indent=indent)), max(1, width - indent))
                self.assertEqual(room_of(made(width, once=indent)), max(1, width - indent))

    def test_what_waits_takes_nothing_of_it(self):
        self.assertEqual(room_of(made(20, ("one", "two"))), 20)


class Words(unittest.TestCase):
    def test_a_word_that_has_room_waits(self):
        self.assertEqual(with_word(made(10), "one"), (made(10, ("one",)), None, None, False))
        self.assertEqual(with_word(made(10, ("one",)), "two"),
                         (made(10, ("one", "two")), None, None, False))

    def test_words_wait_by_their_cells(self):
        self.assertEqual(with_word(made(10), r"a\-b\\c"), (made(10, ("ab\\c",)), None, None, False))

    def test_just_room_and_one_cell_too_many(self):
        self.assertEqual(with_word(made(7, ("one",)), "two"),
                         (made(7, ("one", "two")), None, None, False))
        self.assertEqual(with_word(made(6, ("one",)), "two"), (made(6), "one", "two", False))
        self.assertEqual(with_word(made(3), "one"), (made(3, ("one",)), None, None, False))
        self.assertEqual(with_word(made(2), "one"), (made(2), "one", None, True))

    def test_marks_take_no_room_and_two_strokes_one_cell(self):
        self.assertEqual(with_word(made(4), r"\-a\-b\-c\-d\-")[0], made(4, ("abcd",)))
        self.assertEqual(with_word(made(3), r"a\\b")[0], made(3, ("a\\b",)))

    def test_a_word_too_long_where_words_wait_is_looked_at_again(self):
        self.assertEqual(with_word(made(4, ("ab",)), "abcdef"), (made(4), "ab", "abcdef", False))
        self.assertEqual(with_word(made(4), "abcdef"), (made(4), "abcdef", None, True))

    def test_parted_at_as_many_pieces_as_have_room(self):
        word = r"abc\-def\-ghij"
        self.assertEqual(with_word(made(10), word), (made(10, ("abcdefghij",)), None, None, False))
        for room in (9, 8, 7):
            self.assertEqual(with_word(made(room), word), (made(room), "abcdef-", "ghij", False))
        for room in (6, 5, 4):
            self.assertEqual(with_word(made(room), word),
                             (made(room), "abc-", r"def\-ghij", False))
        for room in (3, 2, 1):
            self.assertEqual(with_word(made(room), word), (made(room), "abcdefghij", None, True))

    def test_pieces_come_behind_those_that_wait(self):
        self.assertEqual(with_word(made(8, ("one",)), r"ab\-cd\-ef"),
                         (made(8), "one ab-", r"cd\-ef", False))
        self.assertEqual(with_word(made(7, ("one",)), r"ab\-cd\-ef"),
                         (made(7), "one ab-", r"cd\-ef", False))
        self.assertEqual(with_word(made(6, ("one",)), r"ab\-cd\-ef"),
                         (made(6), "one", r"ab\-cd\-ef", False))
        self.assertEqual(with_word(made(9, ("one",)), r"ab\-cd\-ef"),
                         (made(9), "one abcd-", "ef", False))

    def test_a_cell_among_the_pieces_and_in_what_is_left(self):
        self.assertEqual(with_word(made(3), r"\-abcd"), (made(3), "abcd", None, True))
        self.assertEqual(with_word(made(3), r"abcd\-"), (made(3), "abcd", None, True))
        self.assertEqual(with_word(made(3), r"\-\-abcd\-\-"), (made(3), "abcd", None, True))
        self.assertEqual(with_word(made(3), r"\-ab\-cd\-"), (made(3), "ab-", r"cd\-", False))
        self.assertEqual(with_word(made(3), r"ab\-\-cd"), (made(3), "ab-", "cd", False))
        self.assertEqual(with_word(made(3), r"ab\-\-\-cd\-\-"), (made(3), "ab-", r"cd\-\-", False))
        self.assertEqual(with_word(made(3, ("a",)), r"\-abcd"), (made(3), "a", r"\-abcd", False))

    def test_strokes_in_pieces(self):
        self.assertEqual(with_word(made(3), r"a\\\-b\\"), (made(3), "a\\-", r"b\\", False))
        self.assertEqual(with_word(made(3), r"a\\-b"), (made(3), "a\\-b", None, True))
        self.assertEqual(with_word(made(2), r"\\\-" + "\\"), (made(2, ("\\\\",)), None, None, False))

    def test_what_is_left_goes_on(self):
        self.assertEqual(filled(made(4), r"abc\-def\-ghi\-jkl"),
                         (["abc-", "def-", "ghi-"], made(4, ("jkl",))))
        self.assertEqual(filled(made(3), r"ab\-cdef x"), (["ab-", "cdef"], made(3, ("x",))))

    def test_lines_of_words(self):
        self.assertEqual(filled(made(10), "the quick brown fox jumps over it"),
                         (["the quick", "brown fox", "jumps over"], made(10, ("it",))))

    def test_whatever_is_told_of_filling(self):
        self.assertEqual(with_word(made(7, ("one",), is_filled=False), "two"),
                         (made(7, ("one", "two"), is_filled=False), None, None, False))
        self.assertEqual(with_word(made(6, ("one",), is_filled=False), "two"),
                         (made(6, is_filled=False), "one", "two", False))

    def test_blanks_ahead_by_the_indent(self):
        self.assertEqual(with_word(made(8, ("one",), indent=3), "two"),
                         (made(8, indent=3), "   one", "two", False))
        self.assertEqual(with_word(made(5, indent=3), "two"),
                         (made(5, indent=3), "   two", None, True))
        self.assertEqual(with_word(made(6, indent=2), r"abc\-de"),
                         (made(6, indent=2), "  abc-", "de", False))

    def test_the_indent_for_one_line_is_used_up(self):
        self.assertEqual(with_word(made(8, ("one",), indent=2, once=4), "two"),
                         (made(8, indent=2), "    one", "two", False))
        self.assertEqual(with_word(made(8, ("one",), indent=4, once=0), "two"),
                         (made(8, ("one", "two"), indent=4, once=0), None, None, False))
        self.assertEqual(with_word(made(5, indent=0, once=4), "two"),
                         (made(5), "    two", None, True))
        self.assertEqual(with_word(made(6, indent=0, once=4), r"a\-bc"),
                         (made(6), "    a-", "bc", False))
        self.assertEqual(filled(made(8, once=4), "one two six"),
                         (["    one"], made(8, ("two", "six"))))

    def test_room_of_one_cell(self):
        self.assertEqual(filled(made(3, indent=9), "a b cd"),
                         ([" " * 9 + "a", " " * 9 + "b", " " * 9 + "cd"], made(3, indent=9)))

    def test_words_that_wait_beyond_the_room(self):
        self.assertEqual(with_word(made(2, ("abc", "d")), "e"), (made(2), "abc d", "e", False))

    def test_all_words_of_few_tokens(self):
        for many in range(1, 6):
            for found in itertools.product(("a", "b", r"\-", r"\\"), repeat=many):
                word = "".join(found)
                cells = [("\\" if token == r"\\" else token) for token in found if token != r"\-"]
                if cells:
                    for room in range(1, 6):
                        self.step_of(word, found, "".join(cells), room, ())
                        self.step_of(word, found, "".join(cells), room, ("x",))

    def step_of(self, word, found, cells, room, waiting):
        ahead = "".join(text + " " for text in waiting)
        step = with_word(made(room, waiting), word)
        places = [at for at, token in enumerate(found) if token == r"\-"]
        partings = []
        for at in places:
            first = "".join("\\" if token == r"\\" else token
                            for token in found[:at] if token != r"\-")
            left = "".join(found[at + 1:])
            if first and left.replace(r"\-", "") and len(ahead + first + "-") <= room:
                partings.append((ahead + first + "-", left))
        if len(ahead + cells) <= room:
            told = (made(room, (*waiting, cells)), None, None, False)
        elif partings:
            told = (made(room), *partings[-1], False)
        elif waiting:
            told = (made(room), " ".join(waiting), word, False)
        else:
            told = (made(room), cells, None, True)
        self.assertEqual(step, told, (word, room, waiting))


class Breaks(unittest.TestCase):
    def test_what_waits_is_put(self):
        self.assertEqual(broken(made(10, ("one", "two"))), (made(10), "one two"))
        self.assertEqual(broken(made(10, ("one",), indent=2, once=5)),
                         (made(10, indent=2), "     one"))
        self.assertEqual(broken(made(10, ("one",), indent=2, once=0)), (made(10, indent=2), "one"))
        self.assertEqual(broken(made(10, ("one",), indent=2)), (made(10, indent=2), "  one"))

    def test_where_nothing_waits_nothing_is_put(self):
        for environment in (fresh(), made(10, indent=2, once=5), made(3, is_filled=False)):
            self.assertEqual(broken(environment), (environment, None))


class Plain(unittest.TestCase):
    def test_a_line_as_it_stands(self):
        self.assertEqual(set_plain(made(20), "  one  two "), (made(20), "  one  two ", False))
        self.assertEqual(set_plain(made(20), r"a\-b\\c"), (made(20), "ab\\c", False))

    def test_tabs_lead_to_the_stops(self):
        self.assertEqual(set_plain(made(20), r"a\tb"), (made(20), "a       b", False))
        self.assertEqual(set_plain(made(20, stops=(3, 5)), r"a\tb\tc\td"),
                         (made(20, stops=(3, 5)), "a  b c d", False))

    def test_tabs_count_from_behind_the_indent(self):
        self.assertEqual(set_plain(made(20, indent=3), r"a\tb"),
                         (made(20, indent=3), "   a       b", False))

    def test_just_at_the_room_and_one_cell_beyond(self):
        self.assertEqual(set_plain(made(9), r"a\tb"), (made(9), "a       b", False))
        self.assertEqual(set_plain(made(8), r"a\tb"), (made(8), "a       b", True))
        self.assertEqual(set_plain(made(9, indent=2), "abcdefg"),
                         (made(9, indent=2), "  abcdefg", False))
        self.assertEqual(set_plain(made(8, indent=2), "abcdefg"),
                         (made(8, indent=2), "  abcdefg", True))
        self.assertEqual(set_plain(made(8, indent=2, once=1), "abcdefg"),
                         (made(8, indent=2), " abcdefg", False))
        self.assertEqual(set_plain(made(1, indent=9), "a"), (made(1, indent=9), " " * 9 + "a", False))
        self.assertEqual(set_plain(made(1, indent=9), "ab"), (made(1, indent=9), " " * 9 + "ab", True))

    def test_blanks_count_as_cells(self):
        self.assertEqual(set_plain(made(2), "   "), (made(2), "   ", True))
        self.assertEqual(set_plain(made(3, indent=1), "  "), (made(3, indent=1), "   ", False))

    def test_an_empty_line_has_no_blanks(self):
        self.assertEqual(set_plain(made(10, indent=3), ""), (made(10, indent=3), "", False))
        self.assertEqual(set_plain(made(10, indent=3), r"\-\-"), (made(10, indent=3), "", False))

    def test_the_indent_for_one_line_is_used_up(self):
        self.assertEqual(set_plain(made(10, indent=3, once=1), "a"), (made(10, indent=3), " a", False))
        self.assertEqual(set_plain(made(10, indent=3, once=1), ""), (made(10, indent=3), "", False))

    def test_what_waits_stays_waiting(self):
        self.assertEqual(set_plain(made(10, ("one", "two")), "abc"),
                         (made(10, ("one", "two")), "abc", False))
        self.assertEqual(set_plain(made(10, ("one",), is_filled=False), "abc"),
                         (made(10, ("one",), is_filled=False), "abc", False))

    def test_a_line_of_two_hundred_signs(self):
        self.assertEqual(set_plain(made(40), "x" * 200), (made(40), "x" * 200, True))


class Arguments(unittest.TestCase):
    def test_by_their_names(self):
        environment = made(6, ("one",))
        self.assertEqual(room_of(environment=environment), 6)
        self.assertEqual(with_word(environment=environment, word="two"),
                         with_word(environment, "two"))
        self.assertEqual(broken(environment=environment), broken(environment))
        self.assertEqual(set_plain(environment=environment, line="a"), set_plain(environment, "a"))

    def test_what_is_handed_in_stays(self):
        environment = made(6, ("one",), once=2)
        for _ in range(2):
            with_word(environment, "two")
            broken(environment)
            set_plain(environment, "abc")
        self.assertEqual(environment, (6, 0, 2, True, STOPS, ("one",)))

    def test_told_are_tuples_of_plain_kinds(self):
        for told in (with_word(made(6, ("one",)), "two"), with_word(made(2), "abc")):
            self.assertIs(type(told), tuple)
            self.assertIs(type(told[0]), tuple)
            self.assertIs(type(told[0][5]), tuple)
            self.assertIs(type(told[3]), bool)
        self.assertIs(type(broken(made(6, ("one",)))[1]), str)
        self.assertIs(type(set_plain(made(2), "abc")[2]), bool)

    def test_the_signatures_are_those_of_the_interface(self):
        told = {name: str(inspect.signature(getattr(filling, name)))
                for name in ("fresh", "room_of", "with_word", "broken", "set_plain")}
        self.assertEqual(told, {
            "fresh": "(width=20)", "room_of": "(environment)",
            "with_word": "(environment, word)", "broken": "(environment)",
            "set_plain": "(environment, line)",
        })

    def test_each_is_defined_in_its_file(self):
        for function in (fresh, room_of, with_word, broken, set_plain):
            self.assertEqual(function.__module__, "trapsetter.filling")


if __name__ == "__main__":
    unittest.main()
