"""Lines read, one by one: text, requests, macros and their calls."""

from trapsetter.deeds import (
    behind_break, call_macro, close, end_endless, end_page, fault, later, make_break, put,
    put_lines, put_words,
)
from trapsetter.figures import signed_of
from trapsetter.filling import FILLING, set_plain
from trapsetter.leading import LEADING
from trapsetter.lines import is_name, is_request, parts_of, rest_of, word_of
from trapsetter.naming import NAMING
from trapsetter.putting import STEPLESS, put_in_but
from trapsetter.setting import SETTING
from trapsetter.words import words_of

MOST_READS = 500
MOST_ARGUMENTS = 9

STROKE_SIGN = "\\"


def walk(state, source):
    """Takes a whole source, up to its end or to where it is endless."""
    for line in source:
        if not state.is_over:
            hand(state, line)
    if not state.is_over:
        finish(state)


def hand(state, line):
    """Takes the next line of the source."""
    number = len(state.lines)
    state.line_number = number
    state.lines.append(line)
    if state.taking is not None:
        _take(state, number)
    elif not state.is_quiet:
        _read(state, number)
        _run(state)


def finish(state):
    """Does all that is due at the source's end."""
    state.line_number = len(state.lines)
    if state.taking is not None:
        _keep_taken(state)
        fault(state, "open")
    state.aside.clear()
    state.is_quiet = False
    make_break(state)
    _run(state)
    while state.waiting and not state.is_over:
        state.aside.clear()
        end_page(state, len(state.ended))
        _run(state)
    if not state.is_over:
        close(state)


def by_text(state, number):
    """Does a line by its text, with all put in."""
    do_line(state, with_put_in(state, state.lines[number]))


def with_put_in(state, line):
    """The line with what is told in it put in; registers are stepped."""
    if STROKE_SIGN not in line:
        return line
    own = state.calls[-1].own if state.calls else {}
    arguments = state.calls[-1].arguments if state.calls else ()
    strings = {name: told for name, (kind, told) in state.kept.items() if kind == "string"}
    # A register of the call's own is none of the four, whatever its name.
    stepless = [name for name in STEPLESS if name not in own]
    seen = {**state.seen_registers(), **own}
    text, after = put_in_but(line, seen, strings, arguments, stepless)
    for name, told in after.items():
        if name in own:
            own[name] = told
        else:
            state.registers[name] = told
    return text


def do_line(state, line):
    """Does a line as it stands."""
    if is_request(line):
        do_request(state, word_of(line), rest_of(line))
    else:
        do_text(state, line, words_of(line))


def do_text(state, line, words):
    """Sets a line of text, by its words where they are filled."""
    if not state.environment()[FILLING]:
        _set_plain_line(state, line)
    elif words:
        put_words(state, words)
    else:
        behind_break(state, put_lines, ("",))


def do_request(state, word, rest):
    """Does what a request line asks for, or calls the macro of that name."""
    if word in SETTING:
        action = SETTING[word]
    elif word in NAMING:
        action = NAMING[word]
    elif word in LEADING:
        action = LEADING[word]
    elif word in MACROS:
        action = MACROS[word]
    else:
        call_macro(state, word, tuple(parts_of(rest)[:MOST_ARGUMENTS]))
        return
    action(state, rest)


def ask_macro(state, rest):
    """.de NAME WORD: a macro, of the lines behind."""
    parts = parts_of(rest)
    if not parts or not is_name(parts[0], least=3):
        fault(state, "parts")
        return
    closing = "." + (parts[1] if len(parts) > 1 else ".")
    if state.calls:
        _take_from_call(state, parts[0], closing)
    else:
        state.taking = (parts[0], closing, ())


def ask_return(state, _):
    """.rt: the rest of the call is not read."""
    if state.calls:
        _leave_call(state.calls[-1])
    else:
        fault(state, "call")


def ask_if(state, rest):
    """.if N OP N REQUEST ..: the rest is done as a line, where it is so."""
    parts = parts_of(rest)[:3]
    if not _is_test(parts):
        fault(state, "parts")
        return
    behind = rest
    for _ in parts:
        behind = behind.partition(" ")[2].lstrip(" ")
    if behind and _holds(signed_of(parts[0]), parts[1], signed_of(parts[2])):
        later(state, do_line, behind)


def ask_quiet(state, _):
    """.ex: nothing is read any more, up to the end."""
    state.is_quiet = True


MACROS = {"de": ask_macro, "rt": ask_return, "if": ask_if, "ex": ask_quiet}


def _run(state):
    """Does all that is due, and reads all calls to their ends."""
    while state.agenda or state.calls:
        if state.calls and len(state.agenda) == state.calls[-1].base:
            _read_on(state)
        else:
            deed, told = state.agenda.pop()
            deed(state, told)


def _read_on(state):
    call = state.calls[-1]
    if state.is_quiet or call.reached == len(call.numbers):
        state.calls.pop()
    else:
        number = call.numbers[call.reached]
        call.reached += 1
        _read(state, number)


def _read(state, number):
    state.reads += 1
    # The one that is too many is among those read, as lines_read counts them.
    state.read_numbers[number] = True
    if state.reads > MOST_READS:
        end_endless(state)
    else:
        deed = state.reader
        deed(state, number)


def _set_plain_line(state, line):
    environment, cells, is_long = set_plain(state.environment(), line)
    state.turn(environment)
    if is_long:
        fault(state, "long")
    put(state, cells)


def _take(state, number):
    name, closing, numbers = state.taking
    if state.lines[number] == closing:
        state.read_numbers[number] = True
        _keep_taken(state)
    else:
        state.taking = (name, closing, (*numbers, number))


def _keep_taken(state):
    name, _, numbers = state.taking
    state.kept[name] = ("macro", numbers)
    state.taking = None


def _take_from_call(state, name, closing):
    call = state.calls[-1]
    numbers = call.numbers[call.reached:]
    lines = [state.lines[number] for number in numbers]
    if closing in lines:
        at = lines.index(closing)
        state.read_numbers[numbers[at]] = True
        numbers = numbers[:at]
        call.reached += at + 1
    else:
        fault(state, "open")
        _leave_call(call)
    state.kept[name] = ("macro", numbers)


def _leave_call(call):
    call.reached = len(call.numbers)


def _is_test(parts):
    if len(parts) < 3 or parts[1] not in ("<", "=", ">"):
        return False
    return signed_of(parts[0]) is not None and signed_of(parts[2]) is not None


def _holds(left, sign, right):
    if sign == "<":
        return left < right
    if sign == ">":
        return left > right
    return left == right
