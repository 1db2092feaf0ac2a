"""Tests of trapsetter.traps: point 10, and point 2 of its functions."""

import inspect
import itertools
import unittest

from trapsetter import traps
from trapsetter.traps import name_at, next_place, with_trap, without_trap


class Seen(unittest.TestCase):
    def test_the_name_at_a_place(self):
        laid = ((0, "abc"), (3, "bcd"), (-1, "cde"))
        self.assertEqual([name_at(laid, place, 6) for place in range(6)],
                         ["abc", None, None, "bcd", None, "cde"])

    def test_no_traps(self):
        self.assertEqual([name_at((), place, 6) for place in range(6)], [None] * 6)

    def test_of_two_at_one_place_the_one_laid_last_is_there(self):
        self.assertEqual(name_at(((3, "abc"), (3, "bcd")), 3, 6), "bcd")
        self.assertEqual(name_at(((3, "bcd"), (3, "abc")), 3, 6), "abc")

    def test_one_place_told_from_both_ends(self):
        self.assertEqual(name_at(((5, "abc"), (-1, "bcd")), 5, 6), "bcd")
        self.assertEqual(name_at(((-1, "bcd"), (5, "abc")), 5, 6), "abc")
        self.assertEqual(name_at(((-6, "abc"),), 0, 6), "abc")
        self.assertEqual(name_at(((-2, "abc"),), 4, 6), "abc")

    def test_a_page_of_one_line(self):
        self.assertEqual(name_at(((0, "abc"), (-1, "bcd")), 0, 1), "bcd")
        self.assertEqual(name_at(((-1, "bcd"), (0, "abc")), 0, 1), "abc")
        self.assertEqual(next_place(((0, "abc"),), 0, 1), 1)


class Behind(unittest.TestCase):
    def test_the_next_place_behind_one(self):
        laid = ((5, "abc"), (0, "bcd"), (3, "cde"), (-3, "def"))
        self.assertEqual([next_place(laid, place, 10) for place in range(10)],
                         [3, 3, 3, 5, 5, 7, 7, 10, 10, 10])

    def test_the_length_where_none_lies_behind(self):
        self.assertEqual([next_place((), place, 4) for place in range(4)], [4] * 4)
        self.assertEqual(next_place(((2, "abc"),), 2, 4), 4)
        self.assertEqual(next_place(((0, "abc"), (-4, "bcd")), 0, 4), 4)

    def test_the_last_place(self):
        self.assertEqual(next_place(((-1, "abc"),), 0, 40), 39)
        self.assertEqual(next_place(((-1, "abc"),), 39, 40), 40)


class Laid(unittest.TestCase):
    def test_in_the_order_in_which_they_were_laid(self):
        self.assertEqual(with_trap((), 3, "abc"), ((3, "abc"),))
        self.assertEqual(with_trap(((3, "abc"),), 0, "bcd"), ((3, "abc"), (0, "bcd")))
        self.assertEqual(with_trap(((3, "abc"),), 3, "bcd"), ((3, "abc"), (3, "bcd")))

    def test_one_told_by_the_same_number_and_name_goes_ahead(self):
        laid = ((3, "abc"), (3, "bcd"), (4, "abc"))
        self.assertEqual(with_trap(laid, 3, "abc"), ((3, "bcd"), (4, "abc"), (3, "abc")))
        self.assertEqual(with_trap(((3, "abc"),), 3, "abc"), ((3, "abc"),))

    def test_one_told_by_another_number_stays(self):
        self.assertEqual(with_trap(((-1, "abc"),), 5, "abc"), ((-1, "abc"), (5, "abc")))


class Taken(unittest.TestCase):
    def test_the_one_seen_goes(self):
        laid = ((3, "abc"), (3, "bcd"), (0, "cde"))
        self.assertEqual(without_trap(laid, 3, 6), ((3, "abc"), (0, "cde")))
        self.assertEqual(without_trap(((3, "abc"), (0, "cde")), 3, 6), ((0, "cde"),))

    def test_by_a_place_from_either_end(self):
        laid = ((5, "abc"), (-1, "bcd"), (0, "cde"))
        self.assertEqual(without_trap(laid, 5, 6), ((5, "abc"), (0, "cde")))
        self.assertEqual(without_trap(laid, -1, 6), ((5, "abc"), (0, "cde")))
        self.assertEqual(without_trap(laid, -6, 6), ((5, "abc"), (-1, "bcd")))

    def test_where_none_is_seen_they_stay(self):
        laid = ((5, "abc"), (-1, "bcd"))
        self.assertEqual(without_trap(laid, 4, 6), laid)
        self.assertEqual(without_trap(laid, -2, 6), laid)
        self.assertEqual(without_trap((), 0, 6), ())

    def test_all_pairs_taken_till_none_is_seen(self):
        for laid in itertools.permutations([(0, "abc"), (-3, "bcd"), (2, "cde"), (-1, "def")]):
            at_top = [name for place, name in laid if place in (0, -3)]
            seen = []
            left = laid
            while name_at(left, 0, 3) is not None:
                seen.append(name_at(left, 0, 3))
                left = without_trap(left, 0, 3)
            self.assertEqual(seen, at_top[::-1])
            self.assertEqual(left, tuple(trap for trap in laid if trap[0] in (2, -1)))


class Arguments(unittest.TestCase):
    def test_by_their_names(self):
        laid = ((3, "abc"),)
        self.assertEqual(name_at(traps=laid, place=3, length=6), "abc")
        self.assertEqual(next_place(traps=laid, place=0, length=6), 3)
        self.assertEqual(with_trap(traps=laid, place=0, name="bcd"), ((3, "abc"), (0, "bcd")))
        self.assertEqual(without_trap(traps=laid, place=3, length=6), ())

    def test_what_is_handed_in_stays_and_tuples_are_told(self):
        laid = ((3, "abc"), (0, "bcd"))
        for told in (with_trap(laid, 3, "abc"), without_trap(laid, 3, 6), without_trap(laid, 1, 6)):
            self.assertIs(type(told), tuple)
            self.assertTrue(all(type(trap) is tuple for trap in told))
        self.assertEqual(laid, ((3, "abc"), (0, "bcd")))

    def test_the_signatures_are_those_of_the_interface(self):
        told = {name: str(inspect.signature(getattr(traps, name)))
                for name in ("name_at", "next_place", "with_trap", "without_trap")}
        self.assertEqual(told, {
            "name_at": "(traps, place, length)", "next_place": "(traps, place, length)",
            "with_trap": "(traps, place, name)", "without_trap": "(traps, place, length)",
        })
        for name in told:
            self.assertEqual(getattr(traps, name).__module__, "trapsetter.traps")


if __name__ == "__main__":
    unittest.main()
