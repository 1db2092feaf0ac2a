"""What is done to a state: lines put, pages ended, traps sprung, calls made.

A deed that leads to others leaves them in the agenda, the next one last. What
comes behind a put or a break is left there ahead of it, so that the macros of
the traps which it springs are read first.
"""

from trapsetter.filling import broken, with_word
from trapsetter.registers import clamped
from trapsetter.state import Call
from trapsetter.traps import name_at, next_place

MOST_PUTS = 400
MOST_CALLS = 12


def later(state, deed, told):
    """Leaves a deed to be done ahead of all that is due."""
    state.agenda.append((deed, told))


def fault(state, word):
    """Tells a fault of the line that is being read."""
    names = tuple([call.name for call in state.calls])
    state.told_faults.append((state.line_number, names, word))


def close(state):
    """Fills the page up, if anything is on it; nothing more is taken."""
    if state.standing:
        missing = state.page_length - len(state.standing)
        state.ended.append(tuple(state.standing + [""] * missing))
    state.standing = []
    state.is_over = True


def end_endless(state):
    """Ends a set that has too many lines, with all that is due."""
    fault(state, "endless")
    state.agenda.clear()
    state.calls.clear()
    close(state)


def call_macro(state, name, arguments):
    """Has the lines of a macro read next."""
    kind, numbers = state.kept.get(name, ("", ()))
    if kind != "macro":
        fault(state, "unknown")
    elif len(state.calls) == MOST_CALLS:
        fault(state, "deep")
    else:
        state.called_names[name] = True
        state.calls.append(Call(name, numbers, arguments, len(state.agenda)))


def put(state, line):
    """Puts a line; whether that sprang something, or ended a page or the set."""
    if state.puts == MOST_PUTS:
        end_endless(state)
        return True
    state.puts += 1
    if state.aside:
        return _put_aside(state, line)
    state.standing.append(line)
    if len(state.standing) == state.page_length:
        _begin_page(state)
        return True
    return _spring_at(state, len(state.standing))


def put_lines(state, lines):
    """Puts lines as they are, one by one."""
    if lines:
        later(state, put_lines, lines[1:])
        put(state, lines[0])


def put_words(state, words):
    """Fills words, one by one, into the environment that is there for each."""
    environment, line, left, is_long = with_word(state.environment(), words[0])
    state.turn(environment)
    others = words[1:] if left is None else [left, *words[1:]]
    if others:
        later(state, put_words, others)
    if is_long:
        fault(state, "long")
    if line is not None:
        put(state, line)


def make_break(state):
    """Puts what waits, if anything does."""
    environment, line = broken(state.environment())
    state.turn(environment)
    if line is not None:
        put(state, line)


def behind_break(state, deed, told):
    """Makes a break, and does the deed behind it."""
    later(state, deed, told)
    make_break(state)


def space(state, many):
    """Puts empty lines until one springs something or ends a page."""
    left = many
    while left > 0 and not put(state, ""):
        left -= 1


def end_page(state, number):
    """Puts empty lines until the page of this number, from 0, has ended."""
    if len(state.ended) == number:
        later(state, end_page, number)
        put(state, "")


def lines_left(state):
    """How many lines are left up to the next trap behind, or the page's end."""
    place = len(state.standing)
    return next_place(state.laid, place, state.page_length) - place


def _put_aside(state, line):
    name, lines, spot = state.aside[-1]
    lines = (*lines, line)
    state.aside[-1] = (name, lines, spot)
    if spot is None or spot[0] != len(lines):
        return False
    _spring(state, spot[1])
    return True


def _begin_page(state):
    state.ended.append(tuple(state.standing))
    state.standing = []
    number, step, form = state.registers["pn"]
    state.registers["pn"] = (clamped(number + 1), step, form)
    later(state, _put_waiting, (len(state.ended), True))
    _spring_at(state, 0)


def _put_waiting(state, told):
    """Puts what was held, in order, on the page of this number."""
    number, is_first = told
    if not state.waiting or state.aside or len(state.ended) != number:
        return
    if is_first or len(state.waiting[0]) <= lines_left(state):
        lines = state.waiting.pop(0)
        later(state, _put_waiting, (number, False))
        put_lines(state, lines)


def _spring_at(state, place):
    name = name_at(state.laid, place, state.page_length)
    if name is None:
        return False
    state.sprung_places[place] = True
    _spring(state, name)
    return True


def _spring(state, name):
    # Behind an .ex a place is come to all the same, but nothing is read.
    if not state.is_quiet:
        call_macro(state, name, ())
