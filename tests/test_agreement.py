"""Tests of the whole: all that sets a source tells the same pages and faults, point 3."""

import random
import unittest

from sources import line_of, source_of
from trapsetter.desk import Desk
from trapsetter.errors import Over
from trapsetter.idle import cut_down, lets_cut
from trapsetter.keep import Keep
from trapsetter.machine import run_by_rows
from trapsetter.never import never_read
from trapsetter.reader import read_pages, read_source
from trapsetter.setter import Setter, set_source
from trapsetter.texts import show_pages, show_source
from trapsetter.widths import first_unlike, lets_unlike

SEEDS = range(3000, 3120)


def by_a_desk(source, length):
    """The answers of a desk that was told the source, line by line."""
    desk = Desk()
    assert desk.say(f"fresh {length}") == "ok"
    for line in source:
        desk.say("line " + line)
    many = desk.say("end")
    pages = []
    while desk.say(f"page {len(pages)}") != "refused NoPage":
        pages.append(desk.say(f"page {len(pages)}"))
    assert many in (str(len(pages)), "refused Over")
    assert desk.say("here") == "-"
    return pages, desk.say("faults")


def told_as_by_a_desk(pages, faults):
    texts = [f"{line} {','.join(calls) or '-'} {word}" for line, calls, word in faults]
    return [" / ".join(page) for page in pages], " / ".join(texts) or "-"


def in_pieces(source, length, chance):
    """A setter that is left for its twin now and then, while others go astray."""
    setter = Setter(length)
    astray = []
    try:
        for line in source:
            if chance.random() < 0.3:
                astray.append(setter)
                setter = setter.twin()
            if astray and chance.random() < 0.5:
                go_astray(chance.choice(astray), line_of(chance))
            setter.read(line)
        setter.end()
    except Over:
        pass
    return setter.pages(), setter.faults()


def go_astray(setter, line):
    try:
        setter.read(line)
    except Over:
        pass


def by_a_keep(source, length, chance):
    """A keep of something else that is changed to the source, in some order."""
    keep = Keep(tuple(line_of(chance) for _ in range(chance.randint(0, 20))), length)
    while len(keep.source()) > len(source):
        keep.take(chance.randrange(len(keep.source())))
    while len(keep.source()) < len(source):
        keep.put(chance.randint(0, len(keep.source())), line_of(chance))
    for number in chance.sample(range(len(source)), len(source)):
        keep.change(number, source[number])
    assert keep.source() == source
    return keep.pages(), keep.faults()


class Agreement(unittest.TestCase):
    maxDiff = None

    def test_all_tell_the_same(self):
        for seed in SEEDS:
            chance = random.Random(seed)
            source, length = source_of(seed)
            whole = set_source(source, length)
            self.assertEqual(run_by_rows(source, length), whole, seed)
            self.assertEqual(in_pieces(source, length, chance), whole, seed)
            self.assertEqual(by_a_keep(source, length, chance), whole, seed)
            self.assertEqual(by_a_desk(source, length), told_as_by_a_desk(*whole), seed)

    def test_written_and_read_back(self):
        for seed in SEEDS:
            source, length = source_of(seed)
            pages = set_source(source, length)[0]
            self.assertEqual(read_source(show_source(source)), source)
            self.assertEqual(read_pages(show_pages(pages)), pages)

    def test_what_was_told_may_be_handed_in_again(self):
        for seed in range(3000, 3020):
            source, length = source_of(seed)
            left, numbers = told = cut_down(source, length)
            self.assertIs(lets_cut(source, length, told), True)
            self.assertEqual(set_source(left, length)[0], set_source(source, length)[0])
            self.assertEqual(run_by_rows(left, length), set_source(left, length))
            self.assertEqual(Keep(Keep(left, length).source(), length), Keep(left, length))
            unlike = first_unlike(source, left, length)
            self.assertIs(lets_unlike(source, left, length, unlike), True)

    def test_lines_that_are_never_read_do_nothing_where_they_are_the_last(self):
        for seed in SEEDS:
            source, length = source_of(seed)
            if source and set_source(source, length)[1][-1:] != [(len(source), (), "open")]:
                last = len(source) - 1
                if last in never_read(source, length):
                    self.assertEqual(set_source(source[:last], length)[0], set_source(source, length)[0], seed)


class Kinds(unittest.TestCase):
    """What is told is of plain kinds all through."""

    def assert_plain(self, thing):
        self.assertIn(type(thing), (tuple, list, dict, int, bool, str, type(None)))
        if isinstance(thing, (tuple, list)):
            for part in thing:
                self.assert_plain(part)
        elif isinstance(thing, dict):
            for pair in thing.items():
                self.assert_plain(pair)

    def test_of_whole_sets(self):
        for seed in range(3000, 3030):
            source, length = source_of(seed)
            keep, setter = Keep(source, length), Setter(length)
            for line in source:
                go_astray(setter, line)
            for told in (
                    set_source(source, length), run_by_rows(source, length), keep.pages(), keep.faults(), keep.source(),
                    setter.pages(), setter.stands(), setter.faults(), setter.names(), setter.traps(),
                    cut_down(source[:20], length), never_read(source, length), read_source(show_source(source))):
                self.assert_plain(told)


if __name__ == "__main__":
    unittest.main()
