"""What of a source is never called, never read, never sprung."""

from trapsetter.traps import from_top
from trapsetter.whole import set_whole


def never_called(source, length):
    """The names that keep a macro at the end, by which none was called."""
    state = set_whole(source, length)
    macros = [name for name, (kind, _) in state.kept.items() if kind == "macro"]
    return sorted([name for name in macros if name not in state.called_names])


def never_read(source, length):
    """The numbers of the lines that were read neither by themselves nor in a call."""
    state = set_whole(source, length)
    return [number for number in range(len(source)) if number not in state.read_numbers]


def never_sprung(source, length):
    """The places, from the top, of traps that lie there at the end and never sprang."""
    state = set_whole(source, length)
    places = sorted({from_top(place, length) for place, _ in state.laid})
    return [place for place in places if place not in state.sprung_places]
