"""Tests of whole sources made by a seed, against a walker by recursion: point 3."""

import sys
import unittest

from sources import source_of
from walker import walked
from trapsetter.errors import Over
from trapsetter.setter import Setter, set_source

SEEDS = range(1500)


def ended(setter, lines):
    try:
        for line in lines:
            setter.read(line)
        setter.end()
    except Over:
        pass
    return setter


class Walks(unittest.TestCase):
    def within(self, limit):
        """Lets calls go no deeper than this, up to the end of the test."""
        self.addCleanup(sys.setrecursionlimit, sys.getrecursionlimit())
        sys.setrecursionlimit(limit)

    def test_as_the_walker(self):
        # The walker goes as deep as its lines lead; the program does not.
        self.within(20000)
        for seed in SEEDS:
            source, length = source_of(seed)
            width = None if seed % 3 else seed % 40 + 1
            pages, faults, walker = walked(source, length, width)
            setter = ended(Setter(length, width=width), source)
            self.assertEqual((setter.pages(), setter.faults()), (pages, faults), seed)
            self.assertEqual(setter.lines_read(), walker.reads, seed)
            self.assertEqual(setter.traps(), walker.traps, seed)
            self.assertEqual(list(setter.names().items()),
                             [(name, walker.kept[name][0]) for name in sorted(walker.kept)], seed)
            for name in ("x", "y", "pn", "vp", "dn", "dw"):
                self.assertEqual(setter.value(name), walker.value(name), (seed, name))
            self.assertEqual(set_source(source, length, width=width), (pages, faults), seed)

    def test_stopped_and_gone_on_with(self):
        for seed in range(150):
            source, length = source_of(seed)
            whole = set_source(source, length)
            setter = Setter(length)
            for number, line in enumerate(source):
                twin = ended(setter.twin(), source[number:])
                self.assertEqual((twin.pages(), twin.faults()), whole, (seed, number))
                try:
                    setter.read(line)
                except Over:
                    break

    def test_no_deeper_for_many_held_ones(self):
        # Each page that begins puts one of those that wait, amid the putting
        # of the one before.
        source = (".de abc", ".fl", "a", ".ef", "..", ".nf", ".fl", "b", "b", ".ef", *(".abc",) * 49, "c")
        self.within(200)
        pages, faults = set_source(source, 1)
        self.assertEqual(faults, [])
        self.assertEqual(pages, [("c",), ("b",), *[("a",)] * 49, ("b",)])


if __name__ == "__main__":
    unittest.main()
