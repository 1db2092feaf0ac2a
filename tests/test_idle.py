"""Tests of lines that do nothing: point 23, and point 2 of its functions."""

import inspect
import unittest

from sources import source_of
from things import STRANGE
from whole import Case, macro
from trapsetter import idle
from trapsetter.idle import cut_down, idle_lines, lets_cut
from trapsetter.setter import set_source

# Of twenty lines at most; what goes, goes in more than one turn.
SOURCES = (
    (), ("a",), (".br",), ("", ".br", ""), ("a", ".br", ".br", "b"), (".in 2", "a", ".zz", ".in 0"),
    (*macro("abc", "a"), "b"), (*macro("abc", "a"), ".abc", ".abc"), (".wh 1 abc", "a", ".br", "b"),
    (".nr x 1", r"\R(x)", ".nr x 2", ".rm abc"), (".ti 3", ".ti 3", "a"), ("a", "b", ".fi", ".bp", "c", ".bp"),
    (".fl", "a", ".ef", ".fl", ".ef", ".ev e", ".ev", ".ex", "b", "c"),
    (".di abc", "a", ".di", ".rm abc", ".de bcd xx", "..", ".xx", ".bcd", ".if 1 = 2 b", "c"),
)


def without(source, numbers):
    return tuple(line for number, line in enumerate(source) if number not in numbers)


def by_hand(source, length):
    """Left out one by one, from the last to the first, till a whole turn leaves none out."""
    pages = set_source(source, length)[0]
    lines = list(enumerate(source))
    goes_on = True
    while goes_on:
        goes_on = False
        for pair in lines[::-1]:
            others = [one for one in lines if one != pair]
            if set_source(tuple(line for _, line in others), length)[0] == pages:
                lines = others
                goes_on = True
    left = tuple(line for _, line in lines)
    return left, tuple(sorted(set(range(len(source))) - {number for number, _ in lines}))


def made(seed):
    source, length = source_of(seed)
    return source[:20], length


class Idle(Case):
    def test_a_source_of_nothing(self):
        self.assertEqual(idle_lines((), 3), [])

    def test_of_one_line(self):
        self.assertEqual(idle_lines(("a",), 3), [])
        self.assertEqual(idle_lines(("",), 3), [])
        self.assertEqual(idle_lines((".sp",), 3), [])
        self.assertEqual(idle_lines((".bp",), 3), [])
        self.assertEqual(idle_lines((".br",), 3), [0])
        self.assertEqual(idle_lines((".zz",), 3), [0])
        self.assertEqual(idle_lines(("..",), 3), [0])

    def test_lines_that_all_do_nothing(self):
        self.assertEqual(idle_lines((".br", ".fi", ".in 4", ".zz", ".nr x 5", ".wh 2 abc"), 3), [0, 1, 2, 3, 4, 5])

    def test_two_that_do_something_only_together(self):
        self.assertEqual(idle_lines(("a", ".br", ".br", "b"), 3), [1, 2])
        self.assertEqual(idle_lines(("a", ".br", "b"), 3), [])
        self.assertEqual(idle_lines((".nr x 1", ".nr x +1", r".if \R(x) = 2 a"), 3), [])

    def test_a_request_told_twice(self):
        self.assertEqual(idle_lines((".in 2", ".in 2", "a"), 3), [0, 1])
        self.assertEqual(idle_lines((".in 2", "a", ".in 2", ".br"), 3), [2, 3])
        self.assertEqual(idle_lines((".in +2", ".in +2", "a"), 3), [])

    def test_a_break_where_nothing_waits(self):
        self.assertEqual(idle_lines((".br", "a", ".br", "b", ".br"), 3), [0, 4])

    def test_a_line_of_a_macro_that_is_never_called(self):
        # Without the line that closes it the macro takes the text, too.
        self.assertEqual(idle_lines((*macro("abc", "a", "b"), "c"), 3), [1, 2])
        self.assertEqual(idle_lines((*macro("abc", "a", "b"), ".abc", ".abc"), 3), [])

    def test_the_line_that_closes_a_macro(self):
        self.assertEqual(idle_lines(("c", *macro("abc", ".br")), 3), [1, 2, 3])
        self.assertEqual(idle_lines((*macro("abc", ".br"), "c"), 3), [0, 1])
        # Without the line that begins it its lines are read where they stand.
        self.assertEqual(idle_lines((*macro("abc", ".in 1"), ".abc", "c"), 3), [0])
        self.assertEqual(idle_lines((*macro("abc", ".in +1"), ".abc", ".abc", "c"), 3), [])

    def test_lines_that_are_alike(self):
        self.assertEqual(idle_lines(("a", "a"), 3), [])
        self.assertEqual(idle_lines(("a b c",), 3), [])
        self.assertEqual(idle_lines(("", "", "a"), 1), [])

    def test_faults_are_not_looked_at(self):
        self.assertEqual(idle_lines(("a", ".zz", ".wd x", ".ev"), 3), [1, 2, 3])

    def test_empty_lines_that_fill_the_page_up_all_the_same(self):
        self.assertEqual(idle_lines((".nf", "a", "", ""), 3), [0, 2, 3])
        self.assertEqual(idle_lines((".nf", "", "", ""), 3), [0, 1, 2, 3])
        self.assertEqual(idle_lines((".nf", "a", "", "", ""), 3), [0])

    def test_the_length_tells(self):
        self.assertEqual(idle_lines(("a", ".bp"), 3), [1])
        self.assertEqual(idle_lines(("a", ".bp", "b"), 3), [])
        self.assertEqual(idle_lines(("a", ".br", ".bp", "b"), 3), [1])
        self.assertEqual(idle_lines((".nf", "a", ".ne 1", "b"), 1), [2])
        self.assertEqual(idle_lines((".nf", "a", ".ne 2", "b"), 2), [])
        self.assertEqual(idle_lines((".nf", "a", ".ne 2", "b"), 3), [2])

    def test_as_each_line_is_left_out_by_itself(self):
        for source, length in [*[(source, 3) for source in SOURCES], *[made(seed) for seed in range(60)]]:
            pages = set_source(source, length)[0]
            expected = [number for number in range(len(source))
                        if set_source(without(source, (number,)), length)[0] == pages]
            self.assertEqual(idle_lines(source, length), expected, source)

    def test_told_is_a_list_of_numbers(self):
        told = idle_lines((".br", ".br"), 3)
        self.assertIs(type(told), list)
        self.assertEqual([type(number) for number in told], [int, int])

    def test_somewhat_beyond_the_limits(self):
        self.assertEqual(idle_lines((".br",) * 65, 41), list(range(65)))


class Cut(Case):
    def test_nothing_to_leave_out(self):
        self.assertEqual(cut_down((), 3), ((), ()))
        self.assertEqual(cut_down(("a",), 3), (("a",), ()))
        self.assertEqual(cut_down((".in 2", "a", ".br", "b"), 3), ((".in 2", "a", ".br", "b"), ()))

    def test_nothing_is_left(self):
        self.assertEqual(cut_down((".br",), 3), ((), (0,)))
        self.assertEqual(cut_down((".br", ".zz", ".in 3", ".rm abc"), 3), ((), (0, 1, 2, 3)))

    def test_from_the_last_one_on(self):
        self.assertEqual(cut_down(("a", ".br", ".br", "b"), 3), (("a", ".br", "b"), (2,)))
        self.assertEqual(cut_down((".in 2", ".in +0", ".in 2", "a"), 3), ((".in 2", "a"), (1, 2)))
        self.assertEqual(cut_down((".nf", "a", "", "", "b", "", ""), 3),
                         (("a", "", "", "b"), (0, 5, 6)))

    def test_lines_that_can_go_only_behind_others(self):
        # The line that closes the macro comes ahead of the one that begins it,
        # and can go only behind that: in the next turn.
        self.assertEqual(idle_lines((*macro("abc", "a"), "b"), 3), [1])
        self.assertEqual(cut_down((*macro("abc", "a"), "b"), 3), (("b",), (0, 1, 2)))
        self.assertEqual(cut_down((".in +2", ".in -2", "a"), 3), (("a",), (0, 1)))

    def test_more_than_two_turns(self):
        # What comes last can go only where all ahead of it has gone.
        source = (".de abc xx", ".xx", ".de bcd yy", ".yy", ".de cde zz", ".zz", "a")
        self.assertEqual(cut_down(source, 3), (("a",), (0, 1, 2, 3, 4, 5)))
        source = (".nr x 1", r".if \R(x) > 0 .nr y 1", r".if \R(y) > 0 .in 0", "a")
        self.assertEqual(cut_down(source, 3), (("a",), (0, 1, 2)))

    def test_a_turn_goes_on_with_what_is_left(self):
        # Either can go, but not both; the later one goes.
        self.assertEqual(cut_down((".in 1", ".in 1", "a"), 3), ((".in 1", "a"), (1,)))
        self.assertEqual(cut_down((".nf", ".nf", ".nf", "a", "b"), 3), ((".nf", "a", "b"), (1, 2)))

    def test_a_pair_that_goes_only_together_stays(self):
        source = (".nr x +1", ".nr x -1", r"\R(x)")
        self.assertEqual(cut_down(source, 3), (source, ()))
        self.assertEqual(cut_down(("a", ".wd +1", ".wd -1", "b"), 3), (("a", ".wd +1", "b"), (2,)))

    def test_as_by_hand(self):
        many = 0
        for source, length in [*[(source, 3) for source in SOURCES], *[made(seed) for seed in range(60)]]:
            told = cut_down(source, length)
            self.assertEqual(told, by_hand(source, length), source)
            left, out = told
            self.assertEqual(left, without(source, out))
            self.assertEqual(set_source(left, length)[0], set_source(source, length)[0])
            self.assertEqual(idle_lines(left, length), [])
            self.assertEqual(cut_down(left, length), (left, ()))
            many += bool(out) and bool(left)
        self.assertGreater(many, 30)

    def test_told_is_of_plain_kinds(self):
        told = cut_down(("a", ".br"), 3)
        self.assertEqual([type(part) for part in (told, *told)], [tuple, tuple, tuple])
        self.assertEqual([type(number) for number in told[1]], [int])

    def test_somewhat_beyond_the_limits(self):
        self.assertEqual(cut_down((".br",) * 61, 41), ((), tuple(range(61))))


class Lets(Case):
    SOURCE = ("a", ".br", ".br", "b", ".zz")

    def assert_lets(self, things, lets):
        for thing in things:
            self.assertIs(lets_cut(self.SOURCE, 3, thing), lets, thing)

    def test_the_right_thing(self):
        self.assertEqual(cut_down(self.SOURCE, 3), (("a", ".br", "b"), (2, 4)))
        self.assert_lets([(("a", ".br", "b"), (2, 4))], True)

    def test_another_way_that_shows_it_too(self):
        self.assert_lets([(("a", ".br", "b"), (1, 4))], True)

    def test_lines_that_go_only_together(self):
        source = (".nr x +1", ".nr x -1", r"\R(x)")
        self.assertEqual(cut_down(source, 3), (source, ()))
        self.assertIs(lets_cut(source, 3, (source, ())), True)
        self.assertIs(lets_cut(source, 3, ((r"\R(x)",), (0, 1))), True)
        self.assertIs(lets_cut(source, 3, (source[1:], (0,))), False)
        self.assertIs(lets_cut(source, 3, ((source[0], source[2]), (1,))), False)

    def test_a_line_left_that_could_still_go(self):
        self.assert_lets([(("a", ".br", "b", ".zz"), (2,)), (("a", ".br", ".br", "b"), (4,)),
                          (self.SOURCE, ())], False)

    def test_pages_that_are_not_the_same(self):
        self.assert_lets([(("a", "b"), (1, 2, 4)), (("a", ".br"), (2, 3, 4)), ((), (0, 1, 2, 3, 4)),
                          (("b",), (0, 1, 2, 4)), (("a",), (1, 2, 3, 4))], False)
        self.assertIs(lets_cut(("a", ".br", "b"), 3, (("a", "b"), (1,))), False)

    def test_one_number_more_and_one_fewer(self):
        self.assert_lets([(("a", ".br", "b"), (2, 3, 4)), (("a", ".br", "b"), (2,)), (("a", ".br", "b"), (4,)),
                          (("a", ".br", "b"), ()), (("a", ".br", "b"), (2, 4, 5))], False)

    def test_numbers_that_are_not_rising_or_of_no_line(self):
        left = ("a", ".br", "b")
        self.assert_lets([(left, out) for out in (
            (4, 2), (2, 2, 4), (2, 4, 4), (-1, 2, 4), (2, 4, 5), (-3, -1), (2, -1), (2, 4, 10 ** 99))], False)
        self.assertIs(lets_cut(("a", ".zz"), 3, (("a",), (-1,))), False)
        self.assertIs(lets_cut(("a",), 3, (("a",), (1,))), False)
        self.assertIs(lets_cut((), 3, ((), (0,))), False)

    def test_a_truth_stands_for_no_number(self):
        self.assertIs(lets_cut(("a", ".zz"), 3, (("a",), (1,))), True)
        self.assertIs(lets_cut(("a", ".zz"), 3, (("a",), (True,))), False)
        self.assertIs(lets_cut((".zz", "a"), 3, (("a",), (0,))), True)
        self.assertIs(lets_cut((".zz", "a"), 3, (("a",), (False,))), False)

    def test_a_list_stands_for_no_tuple(self):
        left = ("a", ".br", "b")
        self.assert_lets([[left, (2, 4)], (list(left), (2, 4)), (left, [2, 4]), (left, {2: 0, 4: 0})], False)
        self.assertIs(lets_cut((), 3, ((), ())), True)
        for thing in (([], ()), ((), []), [(), ()], ("", ()), ((), "")):
            self.assertIs(lets_cut((), 3, thing), False)

    def test_a_source_that_is_not_what_is_left(self):
        self.assert_lets([(left, (2, 4)) for left in (
            ("a", ".br", "c"), ("a", ".br", "b", ".zz"), ("a", ".br"), ("a", ".br ", "b"), ("b", ".br", "a"),
            ("a", ".br", None), ("a", ".br", ("b",)), "a.brb", None, 0, ())], False)

    def test_things_of_other_sizes(self):
        left = ("a", ".br", "b")
        self.assert_lets([(), (left,), (left, (2, 4), ()), ((2, 4), left), left, (2, 4), ((left, (2, 4)),)], False)

    def test_whatever_it_is(self):
        left = ("a", ".br", "b")
        for thing in STRANGE:
            self.assert_lets([thing, (left, thing), (left, (2, thing)), (left, (thing, 4)), (thing, thing)], False)
            self.assert_lets([(thing, (2, 4)), ((thing, ".br", "b"), (2, 4)), (left, (2, 4), thing)], False)
        for thing in STRANGE:
            self.assertIs(lets_cut((), 3, (thing, ())), False, thing)
            self.assertIs(lets_cut((), 3, ((), thing)), False, thing)

    def test_what_is_told_is_let(self):
        for source, length in [*[(source, 3) for source in SOURCES], *[made(seed) for seed in range(25)]]:
            told = cut_down(source, length)
            self.assertIs(lets_cut(source, length, told), True, source)
            if source:
                self.assertIs(lets_cut(source, length, (told[0], told[1][:-1])), told[1] == (), source)
                self.assertIs(lets_cut(source, length, (told[0] + ("zz",), told[1])), False, source)


class Interface(unittest.TestCase):
    def test_names_and_arguments(self):
        for name, arguments in (("idle_lines", "(source, length)"), ("cut_down", "(source, length)"),
                                ("lets_cut", "(source, length, thing)")):
            told = getattr(idle, name)
            self.assertEqual((str(inspect.signature(told)), told.__module__), (arguments, "trapsetter.idle"))
        self.assertEqual(idle_lines(length=3, source=("a", ".br")), [1])
        self.assertEqual(cut_down(length=3, source=("a", ".br")), (("a",), (1,)))
        self.assertIs(lets_cut(thing=(("a",), (1,)), length=3, source=("a", ".br")), True)

    def test_what_is_told_is_the_asker_s_own(self):
        source = ("a", ".br", ".zz")
        told = idle_lines(source, 3)
        told.clear()
        self.assertEqual(idle_lines(source, 3), [1, 2])
        self.assertEqual(source, ("a", ".br", ".zz"))

    def test_what_is_handed_in_is_as_it_was(self):
        thing = (["a"], [1])
        self.assertIs(lets_cut(("a", ".br"), 3, thing), False)
        self.assertEqual(thing, (["a"], [1]))


if __name__ == "__main__":
    unittest.main()
