"""What the tests of whole sources share."""

import unittest

from trapsetter.errors import Over
from trapsetter.setter import Setter, set_source


def macro(name, *lines):
    """The lines that tell a macro."""
    return (f".de {name}", *lines, "..")


def told_by(length, *lines, width=None):
    """A setter that was told these lines, and has not ended."""
    setter = Setter(length, width=width)
    for line in lines:
        setter.read(line)
    return setter


def stood(length, *lines):
    """What stands on the first page, which does not end."""
    setter = told_by(length, *lines)
    assert setter.pages() == []
    return list(setter.stands())


def ended_by(setter):
    """The pages of a setter when it is ended, by a twin."""
    whole = setter.twin()
    try:
        whole.end()
    except Over:
        pass
    return whole.pages()


class Case(unittest.TestCase):
    maxDiff = None

    def assert_set(self, length, source, pages, faults=()):
        """Each page is told by its lines with / between, without the empty ones at its end."""
        told_pages, told_faults = set_source(tuple(source), length)
        self.assertEqual([len(page) for page in told_pages], [length] * len(told_pages))
        self.assertEqual(["/".join(page).rstrip("/") for page in told_pages], list(pages))
        self.assertEqual(told_faults, list(faults))

    def assert_faults(self, source, *faults, length=10):
        """Each fault is told as (line, word), or as (line, calls, word)."""
        whole = [fault if len(fault) == 3 else (fault[0], (), fault[1]) for fault in faults]
        self.assertEqual(set_source(tuple(source), length)[1], whole)
