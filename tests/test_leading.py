"""Tests of what is led aside, held, and of environments: points 15, 16 and 17."""

import unittest

from whole import Case, macro, stood, told_by

X = macro("xxx", "x", ".br")


class Leaves(Case):
    def test_lines_come_to_a_leaf_and_back(self):
        source = ("a", ".di abc", "b", ".br", "c", ".di", "d", ".gb abc", "e", ".gb abc")
        self.assertEqual(stood(20, *source), ["a", "d", "b", "c", "e", "b", "c"])

    def test_what_waits_goes_by_the_breaks(self):
        self.assertEqual(stood(9, "a", ".di abc", "b", ".di", ".gb abc"), ["a", "b"])

    def test_its_lines_spring_no_traps_and_count_on_no_page(self):
        source = (".nf", ".wh 1 xxx", ".di abc", "a", "b", "c", "d", ".di", r"\R(vp)\R(dn)")
        self.assert_set(3, source, ["04"], [(8, (), "unknown")])

    def test_given_back_without_indents(self):
        source = (".nf", ".in 2", ".di abc", "a", "", ".di", ".in 5", ".gb abc", "b")
        self.assertEqual(stood(9, *source), ["  a", "", "     b"])

    def test_given_back_the_indent_for_one_line_stays(self):
        source = (".nf", ".di abc", "a", ".di", ".ti 4", ".gb abc", "b", "c")
        self.assertEqual(stood(9, *source), ["a", "    b", "c"])

    def test_given_back_traps_are_sprung(self):
        source = (*X, ".nf", ".di abc", "a", "b", "c", ".di", ".wh 2 xxx", ".gb abc")
        self.assertEqual(stood(9, *source), ["a", "b", "x", "c"])
        self.assert_set(2, (".nf", ".di abc", "a", "b", "c", ".di", ".gb abc"), ["a/b", "c"])

    def test_given_back_as_it_was_ahead_of_the_break(self):
        source = (".nf", ".di abc", "a", ".di", *macro("bcd", ".di abc", "b", ".di"), ".wh 1 bcd", ".fi",
                  "c", ".gb abc", ".gb abc")
        self.assertEqual(stood(9, *source), ["c", "a", "b"])
        source = (".nf", ".di abc", "a", ".di", *macro("bcd", ".rm abc"), ".wh 1 bcd", ".fi", "c",
                  ".gb abc", ".gb abc")
        setter = told_by(9, *source)
        self.assertEqual((setter.stands(), setter.faults()), (("c", "a"), [(11, (), "unknown")]))

    def test_given_back_into_a_leaf(self):
        source = (".nf", ".di abc", "a", "b", ".di", ".di bcd", ".gb abc", ".gb abc", "c", ".di",
                  r"\R(dn)", ".gb bcd")
        self.assertEqual(stood(9, *source), ["5", "a", "b", "a", "b", "c"])

    def test_one_within_another(self):
        source = (".nf", ".di abc", "a", ".di bcd", "b", ".di", "c", ".di", ".gb abc", "-", ".gb bcd")
        self.assertEqual(stood(9, *source), ["a", "c", "-", "b"])
        source = (".nf", ".di abc", "a", ".di abc", "b", ".di", "c", ".di", ".gb abc")
        self.assertEqual(stood(9, *source), ["a", "c"])

    def test_in_place_of_what_the_name_kept_when_it_ends(self):
        source = (".ds abc x", ".nf", ".di abc", r"\S(abc)", ".di", r"<\S(abc)>", ".gb abc")
        self.assertEqual(stood(9, *source), ["<>", "x"])
        setter = told_by(9, ".ds abc x", ".di abc")
        self.assertEqual(setter.names(), {"abc": "string"})
        setter.read(".di")
        self.assertEqual(setter.names(), {"abc": "leaf"})

    def test_of_no_lines(self):
        setter = told_by(9, ".di abc", ".di", "a", ".gb abc", "b", ".br")
        self.assertEqual((setter.names(), setter.stands(), setter.faults()),
                         ({"abc": "leaf"}, ("a", "b"), []))

    def test_lines_and_cells_are_told(self):
        setter = told_by(9, ".in 3", ".di abc", "a bc", ".br", "abcdef", ".di")
        self.assertEqual((setter.value("dn"), setter.value("dw")), ("2", "9"))
        setter = told_by(9, ".nf", ".di abc", "abc", ".di bcd", "a", ".di", r"\R(dn)\R(dw)", ".di")
        self.assertEqual((setter.value("dn"), setter.value("dw")), ("2", "3"))

    def test_faults(self):
        self.assert_faults((".di", ".di ab", ".di abcdefg", ".di ABC", ".gb", ".gb ab", ".gb abc"),
                           (0, "aside"), (1, "parts"), (2, "parts"), (3, "parts"), (4, "parts"),
                           (5, "parts"), (6, "unknown"))
        self.assert_faults((".ds abc x", ".gb abc", *macro("bcd", "y"), ".gb bcd", ".di abc", ".gb cde",
                            ".di x", ".di", ".di"),
                           (1, "unknown"), (5, "unknown"), (7, "unknown"), (8, "parts"), (10, "aside"))

    def test_faults_break_nothing(self):
        for line in (".di", ".di ab", ".gb", ".gb abc", ".dt 1 abc", ".dt", ".ef"):
            self.assertEqual(stood(9, "a", line, "b", ".br"), ["a b"], line)

    def test_more_parts_are_passed_over(self):
        self.assertEqual(stood(9, ".di abc x", "a", ".di", ".gb abc x y"), ["a"])

    def test_the_trap_of_a_break_may_have_led_aside(self):
        source = (*macro("abc", ".di bcd"), ".wh 1 abc", "a", ".di cde", "b", ".di", "c", ".di", ".gb bcd",
                  ".gb cde")
        self.assertEqual(stood(9, *source), ["a", "c", "b"])


class Spots(Case):
    def test_sprung_where_the_leaf_has_so_many_lines(self):
        source = (*X, ".nf", ".di abc", ".dt 2 xxx", "a", "b", "c", ".di", ".gb abc")
        self.assertEqual(stood(9, *source), ["a", "b", "x", "c"])

    def test_each_leaf_has_its_own(self):
        source = (*X, *macro("yyy", "y"), ".nf", ".di abc", ".dt 2 xxx", "a", ".di bcd", ".dt 1 yyy",
                  "b", "c", ".di", "d", "e", ".di", ".gb abc", ".gb bcd", ".di abc", "f", "g", ".di",
                  ".gb abc")
        self.assertEqual(stood(20, *source), ["a", "d", "x", "e", "b", "y", "c", "f", "g"])

    def test_the_last_told(self):
        source = (*X, *macro("yyy", "y"), ".nf", ".di abc", ".dt 1 xxx", ".dt 2 yyy", "a", "b", "c", ".di",
                  ".gb abc")
        self.assertEqual(stood(9, *source), ["a", "b", "y", "c"])
        source = (*X, ".nf", ".di abc", ".dt 1 xxx", "a", ".dt 4 xxx", "b", "c", ".di", ".gb abc")
        self.assertEqual(stood(9, *source), ["a", "x", "b", "c", "x"])

    def test_a_place_that_is_passed(self):
        source = (*X, ".nf", ".di abc", "a", "b", ".dt 1 xxx", ".dt 2 xxx", "c", ".di", ".gb abc")
        self.assertEqual(stood(9, *source), ["a", "b", "c"])

    def test_a_macro_that_ends_the_leaf(self):
        source = (*macro("xxx", ".di"), ".nf", ".di abc", ".dt 2 xxx", "a", "b", "c", ".di")
        setter = told_by(9, *source)
        self.assertEqual((setter.stands(), setter.faults()), (("c",), [(9, (), "aside")]))

    def test_a_name_that_is_no_macro_s(self):
        source = (".nf", ".di abc", ".dt 2 xxx", "a", "b", "c", ".di")
        self.assert_faults(source, (4, "unknown"))

    def test_space_stops_there(self):
        source = (*X, ".di abc", ".dt 2 xxx", ".sp 5", "a", ".di", ".gb abc")
        self.assertEqual(stood(9, *source), ["", "", "x", "a"])
        source = (".di abc", ".dt 2 xxx", ".sp 5", "a", ".di", ".gb abc")
        self.assertEqual(stood(9, *source), ["", "", "a"])

    def test_space_is_led_aside(self):
        self.assertEqual(stood(9, ".di abc", ".sp 2", "", ".di", "a", ".gb abc"), ["a", "", "", ""])

    def test_wrong_parts(self):
        for rest in ("", " 1", " abc", " abc 1", " 0 abc", " 0000 abc", " +1 abc", " -1 abc", " x abc",
                     " 12345 abc", " 1 ab", " 1 ABC", " 1 abcdefg"):
            self.assert_faults((".dt" + rest, ".di abc", ".dt" + rest), (0, "parts"), (2, "parts"))

    def test_where_no_leaf_is_being_made_last(self):
        self.assert_faults((".dt 1 abc", ".di abc", ".di", ".dt 1 abc", ".fl", ".dt 1 abc", ".di abc",
                            ".dt 9999 abc x", ".di", ".dt 1 abc", ".ef"),
                           (0, "aside"), (3, "aside"), (5, "aside"), (9, "aside"))


class Environments(Case):
    def test_what_waits_in_the_one_before_waits_there(self):
        source = ("a", ".ev e", "b", ".ev", "c", ".br", ".ev e", "d", ".br")
        self.assertEqual(stood(9, *source), ["a c", "b d"])

    def test_a_fresh_one_and_as_it_was_left(self):
        source = (".in 2", ".wd 9", "a", ".ev e", ".in 4", ".nf", "b", ".ev", "c", ".br", ".ev e", "d", ".ev f",
                  "e", ".br")
        self.assertEqual(stood(9, *source), ["    b", "  a c", "    d", "e"])

    def test_the_same_one_begun_twice(self):
        source = (".ev e", ".in 3", "a", ".ev e", "b", ".br", ".in 5", ".ev", "c", ".br", ".ev", "d", ".br")
        self.assertEqual(stood(9, *source), ["   a b", "     c", "d"])

    def test_back_to_the_one_before(self):
        source = (".in 1", ".ev e", ".in 2", ".ev f", ".in 3", "a", ".br", ".ev", "b", ".br", ".ev", "c", ".br")
        self.assertEqual(stood(9, *source), ["   a", "  b", " c"])

    def test_back_where_there_is_none(self):
        self.assert_faults((".ev", ".ev e", ".ev", ".ev"), (0, "first"), (3, "first"))

    def test_twenty_and_twenty_one_back(self):
        turns = tuple(f".ev {letter}" for letter in "abcdefghijklmnopqrst")
        setter = told_by(9, *turns, ".in 3", ".ev u", "x", ".br", *(".ev",) * 20, "y", ".br", ".ev")
        self.assertEqual(setter.stands(), ("   x", "y"))
        self.assertEqual(setter.faults(), [(21, (), "deep"), (46, (), "first")])

    def test_names_of_one_to_six_letters(self):
        self.assert_faults((".ev a", ".ev abcdef X", ".ev abcdefg", ".ev A", ".ev a1"),
                           (2, "parts"), (3, "parts"), (4, "parts"))

    def test_no_break_is_made(self):
        self.assertEqual(stood(9, "a", ".ev e", ".ev", "b", ".br"), ["a b"])

    def test_traps_registers_and_names_are_of_all(self):
        source = (*X, ".nf", ".nr x 3", ".ds abc y", ".ev e", ".nf", ".wh 1 xxx", r"\R(x)\S(abc)", ".ev", "a")
        self.assertEqual(stood(9, *source), ["3y", "x", "a"])

    def test_a_name_of_one_is_no_name_of_what_is_kept(self):
        setter = told_by(9, ".ev abc", ".ds abc x", ".ev", ".rm abc", ".ev abc")
        self.assertEqual((setter.names(), setter.faults()), ({}, []))


class Held(Case):
    def test_where_there_is_room_they_are_put(self):
        self.assert_set(4, (".nf", "a", ".fl", "b", "c", ".ef", "d", "e"), ["a/b/c/d", "e"])

    def test_that_just_have_room(self):
        self.assert_set(3, (".nf", "a", ".fl", "b", "c", ".ef", "d"), ["a/b/c", "d"])

    def test_that_just_have_none(self):
        self.assert_set(3, (".nf", "a", ".fl", "b", "c", "d", ".ef", "e", "f", "g"), ["a/e/f", "b/c/d", "g"])

    def test_up_to_the_next_trap_behind(self):
        source = (*X, ".wh 3 xxx", ".nf", "a", ".fl", "b", "c", ".ef", "d")
        self.assertEqual(stood(6, *source), ["a", "b", "c", "x", "d"])
        source = (*X, ".wh 2 xxx", ".nf", "a", ".fl", "b", "c", ".ef", "d")
        self.assert_set(6, source, ["a/d/x", "b/c/x"])

    def test_breaks_at_both_ends(self):
        self.assertEqual(stood(9, "a", ".fl", "b", ".ef", "c", ".br"), ["a", "b", "c"])

    def test_put_as_they_are(self):
        source = (".nf", ".in 2", ".fl", "a", "", ".ef", ".ti 4", ".fl", "b", ".ef", "c")
        self.assertEqual(stood(9, *source), ["  a", "", "    b", "  c"])
        source = (".nf", ".fl", *"abc", ".ef", "d", ".in 3", ".ti 1", "e", "f")
        self.assert_set(2, source, ["d/ e", "a/b", "c/   f"])

    def test_several_that_wait(self):
        # The first whatever the room, the others as long as they have room.
        source = (".nf", "x", ".fl", *"abc", ".ef", ".fl", "d", ".ef", ".fl", "e", "f", ".ef", "y", "z",
                  "-", "+")
        self.assert_set(3, source, ["x/y/z", "a/b/c", "d/e/f", "-/+"])
        source = (".nf", "x", "y", ".fl", *"abc", ".ef", ".fl", "d", "e", ".ef", ".fl", "f", ".ef", "z", "-",
                  "+", "*")
        self.assert_set(4, source, ["x/y/z/-", "a/b/c/+", "d/e/f/*"])

    def test_one_that_would_have_room_waits_where_others_wait(self):
        source = (".nf", "x", ".fl", *"abc", ".ef", ".fl", "d", ".ef", "y", "z")
        self.assert_set(3, source, ["x/y/z", "a/b/c", "d"])

    def test_longer_than_a_page(self):
        source = (".nf", "x", ".fl", *"abcde", ".ef", "y", "z")
        self.assert_set(2, source, ["x/y", "a/b", "c/d", "e/z"])
        source = (".nf", "x", ".fl", *"abc", ".ef", ".fl", "d", ".ef", "y", "z")
        # A page that begins amid it puts what is held there, then it goes on.
        self.assert_set(2, source, ["x/y", "a/b", "d/c", "z"])

    def test_behind_the_trap_at_0(self):
        source = (*X, ".wh 0 xxx", ".nf", "a", ".fl", "b", "c", ".ef", "d", "e")
        self.assert_set(3, source, ["a/b/c", "x/d/e", "x"])
        source = (*X, ".wh 0 xxx", ".nf", "a", "b", ".fl", "c", "d", ".ef", "e", "f")
        self.assert_set(3, source, ["a/b/e", "x/c/d", "x/f"])

    def test_the_trap_at_0_that_leads_aside(self):
        source = (*macro("abc", ".di bcd"), ".wh 0 abc", ".nf", "a", ".fl", "b", "c", ".ef", "d",
                  "e", ".di", "f", ".wh 0", "g", "h")
        self.assert_set(2, source, ["a/d", "f/g", "b/c", "h"])

    def test_the_trap_at_0_that_begins_another_page(self):
        source = (*macro("abc", ".wh 0", ".bp"), ".wh 0 abc", ".nf", "a", ".fl", "b", "c", ".ef", "d", "e")
        self.assert_set(2, source, ["a/d", "", "b/c", "e"])

    def test_no_line_at_all(self):
        self.assert_set(3, (".nf", "a", ".fl", ".ef", "b"), ["a/b"])
        # It waits, and counts, as others do: it is the first, so that the next needs room.
        source = (".nf", "a", ".fl", "b", "c", "d", ".ef", ".fl", ".ef", ".fl", *"efg", ".ef", "x", "y", "z")
        self.assert_set(3, source, ["a/x/y", "b/c/d", "e/f/g", "z"])
        # As the first of a page it is put whatever the room, and the next one has none.
        source = (".nf", *macro("abc", ".wh 0", ".fl", ".ef", ".fl", *"bcd", ".ef"), ".wh 0 abc", "a", ".fl",
                  *"efg", ".ef", "x", "y", "z")
        self.assert_set(2, source, ["a/x", "e/f", "g/y", "b/c", "d/z"])

    def test_a_leaf_within_what_is_held(self):
        source = (".nf", ".fl", "a", ".di abc", "b", ".di", "c", ".ef", ".gb abc")
        self.assertEqual(stood(9, *source), ["a", "c", "b"])

    def test_faults(self):
        self.assert_faults((".ef", ".fl", ".fl", ".ef", ".ef"), (0, "aside"), (2, "aside"), (4, "aside"))
        self.assert_faults((".di abc", ".fl", ".ef", ".di"), (1, "aside"), (2, "aside"))
        self.assert_faults((".fl", ".di", ".di abc", ".ef", ".fl", ".di", ".ef"),
                           (1, "aside"), (3, "aside"), (4, "aside"))

    def test_faults_break_nothing(self):
        setter = told_by(9, ".fl", "a", ".fl", "b", ".di", "c", ".ef")
        self.assertEqual(setter.stands(), ("a b c",))
        setter = told_by(9, ".di abc", "a", ".fl", "b", ".ef", "c", ".di", ".gb abc")
        self.assertEqual(setter.stands(), ("a b c",))

    def test_it_is_looked_at_once_more_behind_the_break(self):
        source = (*macro("abc", ".di bcd"), ".wh 1 abc", "a", ".fl", "b", ".di", ".gb bcd")
        setter = told_by(9, *source)
        self.assertEqual((setter.stands(), setter.faults()), (("a", "b"), [(5, (), "aside")]))

    def test_more_parts_are_passed_over(self):
        self.assertEqual(stood(9, ".fl x", "a", ".ef y", "b", ".br"), ["a", "b"])


if __name__ == "__main__":
    unittest.main()
