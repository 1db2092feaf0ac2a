"""Tests of trapsetter.putting: point 7, what point 13 says of it, and point 2."""

import inspect
import itertools
import re
import unittest

from trapsetter import putting
from trapsetter.putting import put_in

NONE = {}


def text_of(line, registers=NONE, strings=NONE, args=()):
    return put_in(line, registers, strings, args)[0]


def by_pattern(line, registers, strings, args):
    """What is told of one line, by a pattern, without steps and without a cut."""
    def told(found):
        whole, register, string, number = found.group(0, 1, 2, 3)
        if register is not None:
            return str(registers.get(register, (0,))[0])
        if string is not None:
            return strings.get(string, "")
        if number == "0":
            return str(len(args))
        if number is not None:
            return args[int(number) - 1] if int(number) <= len(args) else ""
        return whole
    return re.sub(r"\\\\|\\R\(([a-z]{1,6})\)|\\S\(([a-z]{1,6})\)|\\A\(([0-9])\)", told, line)


class Registers(unittest.TestCase):
    def test_the_value_in_its_form(self):
        registers = {"a": (5, 1, "1"), "ab": (5, 1, "01"), "abcdef": (5, 1, "a"), "z": (5, 1, "i"),
                     "low": (-9999, 0, "01"), "none": (0, 0, "i")}
        told = {r"\R(a)": "5", r"\R(ab)": "05", r"\R(abcdef)": "e", r"\R(z)": "v",
                r"\R(low)": "-9999", r"\R(none)": "0", r"x\R(a)y\R(z)": "x5yv"}
        for line, text in told.items():
            self.assertEqual(put_in(line, registers, {}, ()), (text, registers))

    def test_where_there_is_none_it_is_0_and_none_comes(self):
        self.assertEqual(put_in(r"\R(ab)", {}, {}, ()), ("0", {}))
        self.assertEqual(put_in(r"\R(+ab)\R(+ab)", {}, {}, ()), ("00", {}))
        self.assertEqual(put_in(r"\R(+ab)", {"b": (3, 3, "1")}, {}, ()), ("0", {"b": (3, 3, "1")}))

    def test_the_step_is_added_ahead(self):
        self.assertEqual(put_in(r"\R(+ab)", {"ab": (5, 2, "1")}, {}, ()),
                         ("7", {"ab": (7, 2, "1")}))
        self.assertEqual(put_in(r"\R(ab) \R(+ab) \R(ab)", {"ab": (5, -7, "01")}, {}, ()),
                         ("05 -02 -02", {"ab": (-2, -7, "01")}))

    def test_stepped_twice_in_one_line(self):
        self.assertEqual(put_in(r"\R(+ab)\R(+ab)", {"ab": (0, 1, "a"), "c": (1, 1, "1")}, {}, ()),
                         ("ab", {"ab": (2, 1, "a"), "c": (1, 1, "1")}))

    def test_the_step_at_both_ends(self):
        self.assertEqual(put_in(r"\R(+ab) \R(+ab)", {"ab": (9998, 1, "1")}, {}, ()),
                         ("9999 9999", {"ab": (9999, 1, "1")}))
        self.assertEqual(put_in(r"\R(+ab) \R(+ab)", {"ab": (-9998, -1, "1")}, {}, ()),
                         ("-9999 -9999", {"ab": (-9999, -1, "1")}))
        self.assertEqual(put_in(r"\R(+ab)", {"ab": (9999, -9999, "1")}, {}, ()),
                         ("0", {"ab": (0, -9999, "1")}))

    def test_four_registers_pass_over_a_step(self):
        for name in ("pn", "vp", "dn", "dw"):
            registers = {name: (3, 2, "1"), "x": (3, 2, "1")}
            self.assertEqual(put_in(rf"\R(+{name})\R({name})\R(+x)", registers, {}, ()),
                             ("335", {name: (3, 2, "1"), "x": (5, 2, "1")}))


class Strings(unittest.TestCase):
    def test_the_text_of_the_string_or_nothing(self):
        strings = {"abc": "some text", "abcdef": "", "xyz": " "}
        told = {r"\S(abc)": "some text", r"a\S(abcdef)b": "ab", r"\S(xyz)\S(xyz)": "  ",
                r"a\S(abd)b": "ab", r"\S(abcde)": ""}
        for line, text in told.items():
            self.assertEqual(text_of(line, strings=strings), text)

    def test_a_name_of_one_or_two_letters_puts_in_nothing(self):
        self.assertEqual(text_of(r"a\S(ab)b"), "ab")
        self.assertEqual(text_of(r"a\S(x)b", strings={"xyz": "no"}), "ab")
        self.assertEqual(text_of(r"a\S(ab)b", strings={"ab": "no"}), "ab")

    def test_what_is_put_in_is_not_looked_at_again(self):
        strings = {"abc": r"\R(x)\S(xyz)", "xyz": "no", "one": "\\", "two": "\\\\"}
        registers = {"x": (4, 1, "1"), "abc": (7, 0, "1")}
        self.assertEqual(text_of(r"\S(abc)", registers, strings), r"\R(x)\S(xyz)")
        self.assertEqual(text_of(r"\S(one)R(x)", registers, strings), r"\R(x)")
        self.assertEqual(text_of(r"\S(one)\R(x)", registers, strings), "\\4")
        self.assertEqual(text_of(r"\S(two)\R(x)", registers, strings), "\\\\4")
        self.assertEqual(text_of(r"\A(1)R(x)", registers, strings, ("\\",)), r"\R(x)")


class Args(unittest.TestCase):
    def test_the_arguments_of_the_call(self):
        args = tuple("abcdefghi")
        for number in range(1, 10):
            self.assertEqual(text_of(rf"\A({number})", args=args), args[number - 1])
        self.assertEqual(text_of(r"\A(2)\A(1)\A(2)", args=("one", "two")), "twoonetwo")

    def test_none_where_it_has_not_so_many(self):
        self.assertEqual(text_of(r"a\A(2)b", args=("one",)), "ab")
        self.assertEqual(text_of(r"a\A(9)b", args=tuple("abcdefgh")), "ab")
        self.assertEqual(text_of(r"a\A(1)b\A(9)"), "ab")

    def test_how_many_it_has(self):
        for many in range(10):
            self.assertEqual(text_of(r"\A(0)", args=("x",) * many), str(many))


class NotJustSo(unittest.TestCase):
    REGISTERS = {"ab": (5, 1, "1"), "abcdef": (6, 1, "1")}
    STRINGS = {"abc": "text"}

    def test_it_stands_as_it_is(self):
        for line in (
            r"\R(ab", r"\R(", r"\R", "\\", r"\R()", r"\R(+)", r"\R(+ab", r"\R(++ab)", r"\R(ab+)",
            r"\R( ab)", r"\R(ab )", r"\R(-ab)", r"\R(AB)", r"\R(a1)", r"\R(abcdefg)",
            r"\R(+abcdefg)", r"\R[ab]", r"\Rab)", r"\r(ab)", r"\R ab)", r"\R (ab)", r"\ R(ab)",
            r"\S()", r"\S(+abc)", r"\S(abc", r"\S(abcdefg)", r"\S(Abc)", r"\s(abc)", r"\Sabc",
            r"\A()", r"\A(10)", r"\A(a)", r"\A(1", r"\A(+1)", r"\A(-1)", r"\A( 1)", r"\A(00)",
            r"\a(1)", r"\T(ab)", r"\(ab)", r"\)", r"R(ab)", "", "plain", r"\-a\t",
        ):
            self.assertEqual(put_in(line, self.REGISTERS, self.STRINGS, ("arg",)),
                             (line, self.REGISTERS), line)

    def test_what_stands_behind_its_stroke_is_looked_at(self):
        told = {r"\R(\R(ab)": r"\R(5", r"\R(\R(ab))": r"\R(5)", r"\R\R(ab)": r"\R5",
                r"\S(\S(abc)": r"\S(text", r"\A(\A(1)": r"\A(arg", r"\R(+\R(+ab)": r"\R(+6",
                r"\R(A)\R(ab)": r"\R(A)5", r"\R()\A(0)": r"\R()1"}
        for line, text in told.items():
            self.assertEqual(text_of(line, self.REGISTERS, self.STRINGS, ("arg",)), text)

    def test_what_is_told_reaches_to_the_next_parenthesis(self):
        self.assertEqual(text_of(r"\R(ab))", self.REGISTERS), "5)")
        self.assertEqual(text_of(r"\R(a b)\R(ab)", self.REGISTERS), r"\R(a b)5")


class Strokes(unittest.TestCase):
    def test_two_strokes_are_passed_over_as_one(self):
        registers = {"ab": (5, 1, "1")}
        for many, text in ((1, "5"), (2, r"\\R(ab)"), (3, r"\\5"), (4, r"\\\\R(ab)"), (5, r"\\\\5")):
            self.assertEqual(text_of("\\" * many + "R(ab)", registers), text)
        for many in range(1, 6):
            self.assertEqual(text_of("\\" * many), "\\" * many)

    def test_all_short_lines_by_a_pattern(self):
        registers, strings, args = {"a": (5, 1, "1")}, {"aaa": "\\R(a)"}, ("\\", "two")
        tokens = ("\\", "\\\\", "R(", "S(", "A(", "a)", "aaa)", "1", "0", ")")
        for many in range(5):
            for found in itertools.product(tokens, repeat=many):
                line = "".join(found)
                self.assertEqual(put_in(line, registers, strings, args),
                                 (by_pattern(line, registers, strings, args), registers), line)


class Cut(unittest.TestCase):
    def test_lines_of_two_hundred_signs_and_more(self):
        for many, left in ((199, 199), (200, 200), (201, 200), (300, 200)):
            strings = {"abc": "x" * (many - 1)}
            self.assertEqual(text_of(r"\S(abc)y", strings=strings), ("x" * (many - 1) + "y")[:left])

    def test_it_is_cut_behind_all_that_was_put_in(self):
        strings = {"abc": "x" * 100}
        self.assertEqual(put_in(r"\S(abc)\S(abc)\R(+ab)", {"ab": (1, 1, "1")}, strings, ()),
                         ("x" * 200, {"ab": (2, 1, "1")}))
        self.assertEqual(put_in(r"\S(abc)\S(abc)\S(abc)\R(+ab)\R(+ab)",
                                {"ab": (1, 1, "1")}, strings, ()),
                         ("x" * 200, {"ab": (3, 1, "1")}))
        self.assertEqual(text_of(r"\S(abc)\S(abd)" + "y" * 40 + r"\S(abc)", strings=strings),
                         "x" * 100 + "y" * 40 + "x" * 60)


class Arguments(unittest.TestCase):
    def test_what_is_handed_in_stays(self):
        registers, strings, args = {"ab": (1, 1, "1")}, {"abc": "x"}, ("one",)
        put_in(r"\R(+ab)\S(abc)\A(1)", registers, strings, args)
        self.assertEqual((registers, strings, args), ({"ab": (1, 1, "1")}, {"abc": "x"}, ("one",)))

    def test_told_is_the_asker_s_own(self):
        registers = {"ab": (1, 1, "1")}
        text, told = put_in("x", registers, {}, ())
        self.assertIs(type(text), str)
        self.assertIs(type(told), dict)
        self.assertIsNot(told, registers)
        told["ab"] = (9, 9, "i")
        told["c"] = (1, 1, "1")
        self.assertEqual(put_in("x", registers, {}, ()), ("x", {"ab": (1, 1, "1")}))
        self.assertEqual(registers, {"ab": (1, 1, "1")})

    def test_what_was_told_may_be_handed_in_again(self):
        registers = {"ab": (1, 1, "1")}
        for value in range(2, 6):
            text, registers = put_in(r"\R(+ab)", registers, {}, ())
            self.assertEqual(text, str(value))

    def test_by_their_names(self):
        self.assertEqual(put_in(line=r"\R(a)\S(abc)\A(1)", registers={"a": (1, 0, "1")},
                                strings={"abc": "x"}, args=("y",)), ("1xy", {"a": (1, 0, "1")}))

    def test_the_signature_is_that_of_the_interface(self):
        self.assertEqual(str(inspect.signature(putting.put_in)), "(line, registers, strings, args)")
        self.assertEqual(put_in.__module__, "trapsetter.putting")


if __name__ == "__main__":
    unittest.main()
