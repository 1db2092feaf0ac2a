"""A whole source set; nothing is refused here, so it may be beyond its limits."""

from trapsetter.filling import MOST_WIDTH, fresh
from trapsetter.registers import clamped
from trapsetter.state import State
from trapsetter.walking import by_text, walk


def begun(length, width):
    """The state ahead of all lines; a width of None is the one at first."""
    state = State(length, by_text)
    if width is not None:
        state.is_bound = True
        state.turn(fresh(clamped(width, least=1, most=MOST_WIDTH)))
    return state


def set_whole(source, length, *, width=None):
    """The state behind the source's end."""
    state = begun(length, width)
    walk(state, source)
    return state


def pages_of(source, length, *, width=None):
    """The pages of a source."""
    return set_whole(source, length, width=width).ended
