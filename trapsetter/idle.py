"""Lines of a source that do nothing, and what is left without them."""

from trapsetter.figures import is_whole
from trapsetter.whole import pages_of


def idle_lines(source, length):
    """The numbers of the lines without which the pages are the same."""
    pages = pages_of(source, length)
    every = range(len(source))
    return [number for number in every if pages_of(_without(source, (number,)), length) == pages]


def cut_down(source, length):
    """What is left when no line can be left out any more, and the numbers of the others."""
    pages = pages_of(source, length)
    out = ()
    after = _turn(source, length, pages, out)
    while after != out:
        out = after
        after = _turn(source, length, pages, out)
    return _without(source, out), out


def lets_cut(source, length, thing):
    """Whether the thing shows lines that can be left out, and none else behind them."""
    if not isinstance(thing, tuple) or len(thing) != 2:
        return False
    left, out = thing
    if not _are_rising(out, len(source)) or left != _without(source, out):
        return False
    return pages_of(left, length) == pages_of(source, length) and not idle_lines(left, length)


def _turn(source, length, pages, out):
    """The numbers left out behind one more turn, from the last line to the first."""
    for number in reversed(range(len(source))):
        if number not in out:
            more = tuple(sorted([*out, number]))
            if pages_of(_without(source, more), length) == pages:
                out = more
    return out


def _without(source, out):
    return tuple([line for number, line in enumerate(source) if number not in out])


def _are_rising(thing, many):
    """Whether the thing is a rising tuple of numbers of so many lines."""
    if not isinstance(thing, tuple) or not all([is_whole(number, 0, many - 1) for number in thing]):
        return False
    return all([low < high for low, high in zip(thing, thing[1:])])
