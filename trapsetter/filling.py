"""Environments: words filled into lines, and lines set as they stand."""

from trapsetter.words import MARK, cells_of, pieces_of, plain_cells

# The places of what an environment has.
WIDTH = 0
INDENT = 1
ONCE = 2
FILLING = 3
STOPS = 4
WAITING = 5

FIRST_STOPS = (8, 16, 24)

MOST_WIDTH = 40
MOST_INDENT = 20


def fresh(width=20):
    """An environment as it is at first."""
    return width, 0, None, True, FIRST_STOPS, ()


def with_part(environment, place, part):
    """The environment with another part at this place."""
    return environment[:place] + (part,) + environment[place + 1:]


def room_of(environment):
    """How many cells the next line has room for."""
    return max(1, environment[WIDTH] - _indent_of(environment))


def with_word(environment, word):
    """One step of filling: (environment, line, what is left, too long)."""
    room = room_of(environment)
    waiting = environment[WAITING]
    filled = with_part(environment, WAITING, waiting + (cells_of(word),))
    if _cells_in(filled[WAITING]) <= room:
        return filled, None, None, False
    first, left = _parted(waiting, word, room)
    if left:
        after, line = broken(with_part(environment, WAITING, waiting + (first,)))
        return after, line, left, False
    if waiting:
        after, line = broken(environment)
        return after, line, word, False
    after, line = broken(filled)
    return after, line, None, True


def broken(environment):
    """What waits as a line, or None, and the environment without it."""
    waiting = environment[WAITING]
    if not waiting:
        return environment, None
    line = _indented(environment, " ".join(waiting))
    return with_part(_used(environment), WAITING, ()), line


def set_plain(environment, line):
    """The line as it stands: (environment, line, too long)."""
    cells = plain_cells(line, environment[STOPS])
    too_long = len(cells) > room_of(environment)
    return _used(environment), _indented(environment, cells), too_long


def _indent_of(environment):
    once = environment[ONCE]
    return environment[INDENT] if once is None else once


def _used(environment):
    return with_part(environment, ONCE, None)


def _indented(environment, cells):
    # An empty line has no blanks.
    return " " * _indent_of(environment) + cells if cells else ""


def _cells_in(waiting):
    return len(" ".join(waiting))


def _parted(waiting, word, room):
    """As many first pieces as have room, and what is left; else empty texts."""
    pieces = pieces_of(word)
    for many in range(len(pieces) - 1, 0, -1):
        first = "".join([cells_of(piece) for piece in pieces[:many]])
        left = MARK.join(pieces[many:])
        if first and cells_of(left) and _cells_in(waiting + (first + "-",)) <= room:
            return first + "-", left
    return "", ""
