"""Requests that set how lines are put, and that lead on the page."""

from trapsetter.deeds import behind_break, end_page, fault, lines_left, make_break, space
from trapsetter.figures import has_sign, moved, number_of, signed_of
from trapsetter.filling import (
    FILLING, INDENT, MOST_INDENT, MOST_WIDTH, ONCE, STOPS, WIDTH, with_part,
)
from trapsetter.lines import is_name, parts_of
from trapsetter.registers import clamped
from trapsetter.traps import with_trap, without_trap

MOST_STOPS = 8
MOST_STOP = 60


def ask_break(state, _):
    """.br: a break."""
    make_break(state)


def ask_filled(state, _):
    """.fi: a break, then words are filled."""
    behind_break(state, _set_part, (FILLING, True))


def ask_plain(state, _):
    """.nf: a break, then lines are set as they stand."""
    behind_break(state, _set_part, (FILLING, False))


def ask_width(state, rest):
    """.wd N: a break, the width."""
    part = _signed_part(state, rest)
    if part is None or (state.is_bound and not has_sign(part)):
        return
    behind_break(state, _set_moved, (part, WIDTH, WIDTH, 1, MOST_WIDTH))


def ask_indent(state, rest):
    """.in N: a break, the indent."""
    part = _signed_part(state, rest)
    if part is not None:
        behind_break(state, _set_moved, (part, INDENT, INDENT, 0, MOST_INDENT))


def ask_indent_once(state, rest):
    """.ti N: a break, the indent for one line."""
    part = _signed_part(state, rest)
    if part is not None:
        behind_break(state, _set_moved, (part, ONCE, INDENT, 0, MOST_INDENT))


def ask_stops(state, rest):
    """.ta N ..: the tab stops."""
    stops = [number_of(part) for part in parts_of(rest)]
    if _are_stops(stops):
        _set_part(state, (STOPS, tuple(stops)))
    else:
        fault(state, "parts")


def ask_space(state, rest):
    """.sp N: a break, space."""
    parts = parts_of(rest)
    many = number_of(parts[0]) if parts else 1
    if many is None:
        fault(state, "parts")
    else:
        behind_break(state, space, many)


def ask_page(state, _):
    """.bp: a break, the page is ended."""
    if state.aside:
        fault(state, "aside")
    else:
        behind_break(state, _leave_page, None)


def ask_trap(state, rest):
    """.wh N NAME: a trap is laid; .wh N: the one seen there goes."""
    parts = parts_of(rest)
    length = state.page_length
    place = signed_of(parts[0]) if parts else None
    if place is None or not -length <= place < length:
        fault(state, "parts")
    elif len(parts) == 1:
        state.laid = without_trap(state.laid, place, length)
    elif is_name(parts[1], least=3):
        state.laid = with_trap(state.laid, place, parts[1])
    else:
        fault(state, "parts")


def ask_need(state, rest):
    """.ne N: space up to the next trap or the end, where fewer lines are left."""
    parts = parts_of(rest)
    many = number_of(parts[0]) if parts else None
    if many is None:
        fault(state, "parts")
    elif not state.aside and lines_left(state) < many:
        space(state, lines_left(state))


SETTING = {
    "br": ask_break, "fi": ask_filled, "nf": ask_plain, "wd": ask_width, "in": ask_indent,
    "ti": ask_indent_once, "ta": ask_stops, "sp": ask_space, "bp": ask_page, "wh": ask_trap,
    "ne": ask_need,
}


def _signed_part(state, rest):
    """The first part where it is a number; else a fault, and None."""
    parts = parts_of(rest)
    if parts and signed_of(parts[0]) is not None:
        return parts[0]
    fault(state, "parts")
    return None


def _set_part(state, told):
    place, part = told
    state.turn(with_part(state.environment(), place, part))


def _set_moved(state, told):
    part, place, origin, least, most = told
    number = moved(part, state.environment()[origin])
    _set_part(state, (place, clamped(number, least=least, most=most)))


def _are_stops(stops):
    if not 1 <= len(stops) <= MOST_STOPS or None in stops:
        return False
    is_rising = all([low < high for low, high in zip(stops, stops[1:])])
    return is_rising and stops[0] >= 1 and stops[-1] <= MOST_STOP


def _leave_page(state, _):
    # Looked at once more, since the traps of the break may lead aside.
    if state.aside:
        fault(state, "aside")
    else:
        end_page(state, len(state.ended))
