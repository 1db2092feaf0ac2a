"""A setter, which reads the lines of a source, and a whole source set."""

from trapsetter.errors import NoPage, NoSource, Over
from trapsetter.figures import is_whole
from trapsetter.lines import is_line, is_name, need_source
from trapsetter.registers import shown
from trapsetter.walking import finish, hand
from trapsetter.whole import begun, set_whole

MOST_LENGTH = 40


class Setter:
    """Sets a source, line by line, on pages of so many lines."""

    def __init__(self, length, *, width=None):
        _need_length(length)
        self._state = begun(length, width)

    def read(self, line):
        """Reads the next line of the source."""
        self._need_more()
        if not is_line(line):
            raise NoSource("a line is a text of at most sixty signs")
        hand(self._state, line)

    def end(self):
        """Does what is due at the source's end."""
        self._need_more()
        finish(self._state)

    def twin(self):
        """Another one that stands as this one does, and goes on by itself."""
        other = Setter(self._state.page_length)
        other._state = self._state.copied()
        return other

    def length(self):
        """How many lines a page has."""
        return self._state.page_length

    def pages(self):
        """The pages that are ended."""
        return list(self._state.ended)

    def page(self, number):
        """An ended page, by its number from 0."""
        if not is_whole(number, 0, len(self._state.ended) - 1):
            raise NoPage("no page of such a number is ended")
        return self._state.ended[number]

    def stands(self):
        """The lines that stand on the page."""
        return tuple(self._state.standing)

    def faults(self):
        """The faults so far: tuples (line, calls, word)."""
        return list(self._state.told_faults)

    def lines_read(self):
        """How many lines were read, those of macros too."""
        return self._state.reads

    def value(self, name):
        """A register's value in its form, as it is seen where no call is."""
        registers = self._state.seen_registers()
        if not is_name(name) or name not in registers:
            return "0"
        number, _, form = registers[name]
        return shown(number, form)

    def names(self):
        """What is kept: names, rising, to what kind it is."""
        kept = self._state.kept
        return {name: kept[name][0] for name in sorted(kept)}

    def traps(self):
        """The traps, in the order in which they were laid."""
        return self._state.laid

    def _need_more(self):
        if self._state.is_over:
            raise Over("the set has ended")


def set_source(source, length, *, width=None):
    """The pages of a source, and its faults."""
    need_source(source)
    _need_length(length)
    state = set_whole(source, length, width=width)
    return state.ended, state.told_faults


def _need_length(thing):
    if not is_whole(thing, 1, MOST_LENGTH):
        raise NoSource("a page has one to forty lines")
