"""Requests on registers, strings and names."""

from trapsetter.deeds import fault
from trapsetter.figures import moved, signed_of
from trapsetter.lines import is_name, parts_of
from trapsetter.registers import FORMS, clamped

FRESH = (0, 0, "1")

# They tell what is so, and can't be set.
TOLD_ALONE = ("vp", "dn", "dw")


def ask_value(state, rest):
    """.nr NAME N M: a register's value, and its step."""
    parts = parts_of(rest)
    name = parts[0] if parts else ""
    if _is_own(state, name):
        _set_value(state, state.calls[-1].own, parts)
    elif name in TOLD_ALONE:
        fault(state, "parts")
    else:
        # The page's number has no step, so none is looked at.
        _set_value(state, state.registers, parts[:2] if name == "pn" else parts)


def ask_own_value(state, rest):
    """.lr NAME N M: a register of the call's own."""
    if state.calls:
        _set_value(state, state.calls[-1].own, parts_of(rest))
    else:
        fault(state, "call")


def ask_form(state, rest):
    """.af NAME FORM: a register's form."""
    parts = parts_of(rest)
    if len(parts) < 2 or not is_name(parts[0]) or parts[1] not in FORMS:
        fault(state, "parts")
        return
    name = parts[0]
    registers = state.calls[-1].own if _is_own(state, name) else state.registers
    value, step, _ = registers.get(name, FRESH)
    registers[name] = (value, step, parts[1])


def ask_string(state, rest):
    """.ds NAME REST: a string."""
    name, _, text = rest.partition(" ")
    if is_name(name, least=3):
        state.kept[name] = ("string", text)
    else:
        fault(state, "parts")


def ask_removed(state, rest):
    """.rm NAME: what is kept by the name goes."""
    parts = parts_of(rest)
    if not parts or not is_name(parts[0], least=3):
        fault(state, "parts")
    elif parts[0] not in state.kept:
        fault(state, "unknown")
    else:
        del state.kept[parts[0]]


def ask_renamed(state, rest):
    """.rn NAME NAME: what is kept by the first is called by the second."""
    names = parts_of(rest)[:2]
    if len(names) < 2 or not all([is_name(name, least=3) for name in names]):
        fault(state, "parts")
    elif names[0] not in state.kept:
        fault(state, "unknown")
    else:
        kept = state.kept.pop(names[0])
        state.kept[names[1]] = kept


NAMING = {
    "nr": ask_value, "lr": ask_own_value, "af": ask_form, "ds": ask_string, "rm": ask_removed,
    "rn": ask_renamed,
}


def _is_own(state, name):
    return bool(state.calls) and name in state.calls[-1].own


def _set_value(state, registers, parts):
    after = None
    if len(parts) > 1 and is_name(parts[0]):
        after = _with_numbers(registers.get(parts[0], FRESH), parts[1:])
    if after is None:
        fault(state, "parts")
    else:
        registers[parts[0]] = after


def _with_numbers(told, parts):
    value, step, form = told
    value = moved(parts[0], value)
    if len(parts) > 1:
        step = signed_of(parts[1])
    if value is None or step is None:
        return None
    return clamped(value), step, form
