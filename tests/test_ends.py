"""Tests of the source's end and of endless sets: points 18 and 19."""

import unittest

from whole import Case, macro, told_by
from trapsetter.setter import set_source

# Ten lines to call it with: each call of these reads 1 + 9 lines and puts 9.
NINE = macro("abc", *"123456789")


class Ends(Case):
    def test_a_source_of_nothing(self):
        self.assertEqual(set_source((), 5), ([], []))
        setter = told_by(5)
        setter.end()
        self.assertEqual((setter.pages(), setter.stands(), setter.value("vp"), setter.value("pn")),
                         ([], (), "0", "1"))

    def test_a_source_of_requests_alone(self):
        self.assertEqual(set_source((".nr x 1", ".br", ".fl", ".ef", ".di abc", ".di", ".nf", ".ti 3"), 5),
                         ([], []))

    def test_the_last_page_is_filled_up(self):
        self.assertEqual(set_source(("a",), 3), ([("a", "", "")], []))
        self.assertEqual(set_source((".nf", "a", "b", "c"), 3), ([("a", "b", "c")], []))

    def test_no_trap_is_sprung_there_and_the_number_stays(self):
        setter = told_by(3, ".wh 2 abc", ".wh 0 abc", "a")
        setter.end()
        self.assertEqual((setter.pages(), setter.faults()), ([("a", "", "")], []))
        self.assertEqual((setter.value("pn"), setter.value("vp"), setter.stands()), ("1", "0", ()))

    def test_a_break_traps_sprung_and_macros_read(self):
        source = (*macro("abc", "x", ".br", ".zz"), ".wh 1 abc", "a")
        self.assert_set(5, source, ["a/x"], [(7, ("abc",), "unknown")])

    def test_a_break_in_the_environment_that_is_there(self):
        self.assert_set(5, ("a", ".ev e", "b"), ["b"])
        self.assert_set(5, ("a", ".ev e", "b", ".ev"), ["a"])
        # What a macro of the break leaves waiting isn't put.
        self.assert_set(5, (*macro("abc", "x"), ".wh 1 abc", "a"), ["a"])

    def test_what_is_led_aside_or_held_goes(self):
        setter = told_by(5, ".nf", "a", ".di abc", "b")
        setter.end()
        self.assertEqual((setter.pages(), setter.names()), ([("a", "", "", "", "")], {}))
        self.assert_set(5, (".nf", "a", ".fl", "b"), ["a"])
        self.assert_set(5, (".nf", "a", ".fl", "b", ".di abc", "c"), ["a"])
        # What waits in filled text comes on the page, since it was not put yet.
        self.assert_set(5, ("a", ".di abc", "b", ".br", "c"), ["a/c"])

    def test_held_ones_that_wait_are_put_on_pages_of_their_own(self):
        source = (".nf", "x", ".fl", *"abc", ".ef", ".fl", *"de", ".ef")
        self.assert_set(3, source, ["x", "a/b/c", "d/e"])
        # As long as any wait: on the last page there is more room, but no end.
        source = (".nf", "x", ".fl", *"abc", ".ef", ".fl", "d", ".ef", ".fl", "e", ".ef")
        self.assert_set(3, source, ["x", "a/b/c", "d/e"])
        source = (".nf", "x", ".fl", *"abc", ".ef", ".fl", ".ef")
        self.assert_set(3, source, ["x", "a/b/c"])

    def test_traps_are_sprung_on_the_way_to_the_held_ones(self):
        source = (".nf", *macro("abc", r"<\R(pn)>"), ".wh 2 abc", "x", ".fl", *"de", ".ef")
        self.assert_set(4, source, ["x//<1>", "d/e/<2>"])

    def test_what_a_macro_leads_aside_goes_ahead_of_each_such_page(self):
        source = (".nf", *macro("abc", ".di bcd", ".wh 0"), ".wh 0 abc", "x", ".fl", *"de", ".ef")
        self.assert_set(2, source, ["x", "", "d/e"])
        source = (*macro("abc", ".di bcd", ".wh 2"), ".nf", "x", ".fl", *"def", ".ef", ".fi",
                  ".wh 2 abc", "y")
        self.assert_set(3, source, ["x/y", "d/e/f"])

    def test_the_break_may_put_the_held_ones(self):
        self.assert_set(1, (".nf", "x", ".fl", *"de", ".ef", ".fi", "y"), ["x", "y", "d", "e"])

    def test_a_macro_that_leads_aside_on_each_page_makes_it_endless(self):
        source = (".nf", *macro("abc", ".di bcd"), ".wh 0 abc", "x", ".fl", *"de", ".ef")
        pages, faults = set_source(source, 2)
        self.assertEqual(pages, [("x", ""), *[("", "")] * 198])
        self.assertEqual(faults, [(len(source), (), "endless")])

    def test_a_macro_without_an_end(self):
        # It is kept ahead of the break, so the trap calls it.
        source = (".wh 1 abc", "a", ".de abc", "x", ".br")
        self.assert_set(5, source, ["a/x"], [(5, (), "open")])

    def test_behind_an_ex(self):
        source = (*macro("abc", "x", ".br"), ".wh 1 abc", "a", ".ex", ".zz")
        self.assert_set(5, source, ["a/x"])
        # One that is read now acts as ever.
        source = (*macro("abc", ".nf", "x", ".ex", "y"), ".wh 1 abc", "a", ".ex", ".zz")
        self.assert_set(5, source, ["a/x"])
        source = (*macro("abc", ".ex"), ".nf", "x", ".wh 2 abc", ".wh 3 bcd", ".fl", *"defg", ".ef")
        self.assert_set(5, source, ["x", "d/e/f/g"])

    def test_faults_of_the_end_have_the_number_of_lines(self):
        self.assert_faults(("a", ".wh 1 abc"), (2, "unknown"))
        self.assert_faults((".wh 1 abc", "a", ".de bcd"), (3, "open"), (3, "unknown"))
        self.assert_faults((".wd 3", ".wh 1 abc", "a", ".ex", "b", ".zz"), (6, "unknown"))


class Puts(Case):
    def test_four_hundred_and_the_next(self):
        pages, faults = set_source((".sp 9999",) * 10, 40)
        self.assertEqual((pages, faults), ([("",) * 40] * 10, []))
        pages, faults = set_source((".sp 9999",) * 10 + (".sp",), 40)
        self.assertEqual((pages, faults), ([("",) * 40] * 10, [(10, (), "endless")]))
        pages, faults = set_source((".sp 9999",) * 10 + (".nf", ".zz", "a", ".zz"), 40)
        self.assertEqual((pages, faults), ([("",) * 40] * 10, [(11, (), "unknown"), (12, (), "endless")]))

    def test_what_is_on_the_page_is_filled_up_and_told(self):
        setter = told_by(30, *(".sp 9999",) * 13, ".nf", "a", "b", ".sp 7")
        self.assertEqual(len(setter.pages()), 13)
        setter.read(".sp 9")
        self.assertEqual(setter.pages()[13:], [("a", "b", *[""] * 28)])
        self.assertEqual((setter.faults(), setter.stands(), setter.value("pn"), setter.value("vp")),
                         ([(17, (), "endless")], (), "14", "0"))

    def test_long_is_told_ahead_of_endless(self):
        for request in (".fi", ".nf"):
            source = (".sp 9999",) * 10 + (request, ".wd 3", "abcd")
            self.assertEqual(set_source(source, 40)[1], [(12, (), "long"), (12, (), "endless")])

    def test_lines_led_aside_and_given_back_count(self):
        nines = (*NINE, ".nf", ".di bcd", *(".abc",) * 9, ".di")
        # Eighty-one are led aside, and as many given back each time.
        self.assertEqual(set_source((*nines, *(".gb bcd",) * 3), 40)[1], [])
        source = (*nines, *(".gb bcd",) * 4)
        pages, faults = set_source(source, 40)
        self.assertEqual(faults, [(len(source) - 1, (), "endless")])
        self.assertEqual([line for page in pages for line in page],
                         [*("123456789" * 40)[:400 - 81], ""])

    def test_held_lines_count_twice(self):
        held = (".nf", "x", ".fl", *(".abc",) * 20, ".ef")
        # One, and a hundred and eighty held, and put behind 39 empty lines, are 400.
        pages, faults = set_source((*NINE, *held), 40)
        self.assertEqual((len(pages), faults), (6, []))
        # Two are held and put, so that it is one line more.
        source = (*NINE, ".nf", ".fl", "y", ".ef", *held)
        pages, faults = set_source(source, 40)
        self.assertEqual((len(pages), faults), (6, [(len(source), (), "endless")]))
        self.assertEqual(pages[-1], (*("123456789" * 20)[160:179], *[""] * 21))

    def test_the_lines_that_fill_the_last_page_are_not_put(self):
        source = (".sp 9999",) * 9 + (".sp 39", ".nf", "a")
        self.assertEqual(set_source(source, 40)[1], [])
        source = (".sp 9999",) * 9 + (".sp 38", ".nf", "a", ".zz")
        pages, faults = set_source(source, 40)
        self.assertEqual((len(pages), faults), (10, [(12, (), "unknown")]))
        # 39 * 10 + 10 lines are put, and 29 more fill the page.
        source = (".sp 9999",) * 10 + (".sp 10",)
        self.assertEqual((len(set_source(source, 39)[0]), set_source(source, 39)[1]), (11, []))


class Reads(Case):
    # Each call reads a line of the source or macro, and ten lines within it.
    TENS = macro("abc", *(".br",) * 10)

    def test_five_hundred_and_the_next(self):
        # One for .de, and 45 * 11 lines, and four more.
        source = (*self.TENS, *(".abc",) * 45, *(".br",) * 3)
        setter = told_by(5, *source)
        self.assertEqual((len(source), setter.lines_read(), setter.faults()), (60, 499, []))
        setter.read(".br")
        self.assertEqual((setter.lines_read(), setter.faults()), (500, []))
        setter.twin().end()
        setter.read("a")
        self.assertEqual((setter.lines_read(), setter.faults()), (501, [(61, (), "endless")]))
        self.assertEqual(setter.pages(), [])

    def test_within_calls(self):
        source = (*self.TENS, *(".abc",) * 46)
        setter = told_by(5, *source)
        self.assertEqual((setter.lines_read(), setter.faults()), (501, [(57, ("abc",), "endless")]))

    def test_macros_that_call_each_other_without_an_end(self):
        source = (*macro("abc", "a", ".abc", ".abc"), ".nf", ".abc")
        setter = told_by(40, *source)
        faults = setter.faults()
        self.assertEqual(setter.lines_read(), 501)
        self.assertEqual({fault[2] for fault in faults[:-1]}, {"deep"})
        self.assertEqual((faults[-1][0], faults[-1][1][:1], faults[-1][2]), (6, ("abc",), "endless"))
        self.assertEqual(faults.count(faults[-1]), 1)

    def test_lines_taken_for_a_macro_and_those_of_if_are_not_read(self):
        setter = told_by(5, *self.TENS, ".if 1 = 1 .if 1 = 1 .abc", ".zz")
        self.assertEqual(setter.lines_read(), 1 + 1 + 10 + 1)
        setter = told_by(5, ".de bcd xx", ".de abc", *(".br",) * 9, "..", ".xx", ".bcd", ".abc")
        self.assertEqual(setter.lines_read(), 1 + 1 + 1 + 1 + 9)

    def test_a_trap_s_macro_counts_too(self):
        setter = told_by(5, *self.TENS, ".wh 1 abc", ".nf", "a")
        self.assertEqual(setter.lines_read(), 1 + 3 + 10)

    def test_behind_the_source_s_end(self):
        source = (*self.TENS, ".wh 1 abc", *(".abc",) * 44, "a")
        self.assertEqual(told_by(5, *source).faults(), [])
        self.assertEqual(told_by(5, *source).lines_read(), 1 + 1 + 44 * 11 + 1)
        self.assertEqual(set_source(source, 5)[1], [])
        source = (*self.TENS[:-1], ".br", "..", ".wh 1 abc", *(".abc",) * 41, "a")
        self.assertEqual(told_by(5, *source).lines_read(), 1 + 1 + 41 * 12 + 1)
        self.assertEqual(set_source(source, 5),
                         ([("a", "", "", "", "")], [(len(source), ("abc",), "endless")]))


if __name__ == "__main__":
    unittest.main()
