"""A source that is kept set, and set anew only from where it was changed."""

from trapsetter.errors import NoPage, NoSource, Over
from trapsetter.figures import is_whole
from trapsetter.lines import MOST_LINES, is_line, need_source
from trapsetter.setter import Setter


class Keep:
    """A source, and a setter as it stood ahead of each of its lines."""

    def __init__(self, source, length):
        need_source(source)
        self._source = source
        self._length = length
        self._setters = [Setter(length)]
        self._handed = 0
        self._read_from(0)

    def __eq__(self, other):
        return (isinstance(other, Keep) and self._source == other._source
                and self._length == other._length)

    def put(self, number, line):
        """Puts a line in ahead of the one of this number."""
        self._need_change(number, len(self._source), line)
        if len(self._source) == MOST_LINES:
            raise NoSource("a source has at most sixty lines")
        self._change_to((*self._source[:number], line, *self._source[number:]))

    def take(self, number):
        """Takes the line of this number out."""
        self._need_number(number, len(self._source) - 1)
        self._change_to(self._source[:number] + self._source[number + 1:])

    def change(self, number, line):
        """Puts a line in place of the one of this number."""
        self._need_change(number, len(self._source) - 1, line)
        self._change_to((*self._source[:number], line, *self._source[number + 1:]))

    def source(self):
        """The source as it is."""
        return self._source

    def pages(self):
        """The pages of the whole source."""
        return self._whole.pages()

    def faults(self):
        """The faults of the whole source."""
        return self._whole.faults()

    def read_so_far(self):
        """How many of the source's lines were handed to setters, each time."""
        return self._handed

    def _need_number(self, number, most):
        if not is_whole(number, 0, most):
            raise NoPage("no line has such a number")

    def _need_change(self, number, most, line):
        self._need_number(number, most)
        if not is_line(line):
            raise NoSource("a line is a text of at most sixty signs")

    def _change_to(self, source):
        alike = _alike_ahead(self._source, source)
        self._source = source
        self._read_from(alike)

    def _read_from(self, number):
        """Reads the lines from this one on, behind the setter ahead of it."""
        setters = self._setters[:number + 1]
        for line in self._source[number:]:
            setter = setters[-1].twin()
            try:
                setter.read(line)
                self._handed += 1
            except Over:
                # Behind an ended set nothing is read.
                pass
            setters.append(setter)
        self._setters = setters
        self._whole = _ended(setters[-1])


def _ended(setter):
    whole = setter.twin()
    try:
        whole.end()
    except Over:
        # It was endless, and so has ended already.
        pass
    return whole


def _alike_ahead(source, source2):
    """How many lines the sources have in common ahead of the first other one."""
    alike = 0
    for line, line2 in zip(source, source2):
        if line != line2:
            return alike
        alike += 1
    return alike
