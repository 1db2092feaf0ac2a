"""Requests on what is led aside and held, and on environments."""

from trapsetter.deeds import behind_break, fault, lines_left, put_lines
from trapsetter.figures import number_of
from trapsetter.filling import fresh
from trapsetter.lines import is_name, parts_of

MOST_BEFORE = 20


def ask_leaf(state, rest):
    """.di NAME: a break, a leaf is begun; .di: a break, it ends."""
    parts = parts_of(rest)
    if not parts:
        if _is_leaf_last(state):
            behind_break(state, _end_leaf, None)
        else:
            fault(state, "aside")
    elif is_name(parts[0], least=3):
        behind_break(state, _begin_leaf, parts[0])
    else:
        fault(state, "parts")


def ask_spot(state, rest):
    """.dt N NAME: what is sprung where the leaf has so many lines."""
    parts = parts_of(rest)
    many = number_of(parts[0]) if len(parts) > 1 else None
    if not many or not is_name(parts[1], least=3):
        fault(state, "parts")
    elif not _is_leaf_last(state):
        fault(state, "aside")
    else:
        name, lines, _ = state.aside[-1]
        state.aside[-1] = (name, lines, (many, parts[1]))


def ask_given_back(state, rest):
    """.gb NAME: a break, a leaf is given back."""
    parts = parts_of(rest)
    if not parts or not is_name(parts[0], least=3):
        fault(state, "parts")
        return
    kind, lines = state.kept.get(parts[0], ("", ()))
    if kind == "leaf":
        behind_break(state, put_lines, lines)
    else:
        fault(state, "unknown")


def ask_environment(state, rest):
    """.ev NAME: another environment; .ev: the one before."""
    parts = parts_of(rest)
    if not parts:
        if state.before:
            state.where = state.before.pop()
        else:
            fault(state, "first")
    elif not is_name(parts[0]):
        fault(state, "parts")
    elif len(state.before) == MOST_BEFORE:
        fault(state, "deep")
    else:
        state.before.append(state.where)
        state.where = parts[0]
        state.environments.setdefault(parts[0], fresh())


def ask_held(state, _):
    """.fl: a break, lines are held."""
    if state.aside:
        fault(state, "aside")
    else:
        behind_break(state, _begin_held, None)


def ask_held_end(state, _):
    """.ef: a break, what is held is put or waits."""
    if state.aside and not _is_leaf_last(state):
        behind_break(state, _end_held, None)
    else:
        fault(state, "aside")


LEADING = {
    "di": ask_leaf, "dt": ask_spot, "gb": ask_given_back, "ev": ask_environment, "fl": ask_held,
    "ef": ask_held_end,
}


def _is_leaf_last(state):
    return bool(state.aside) and state.aside[-1][0] is not None


def _begin_leaf(state, name):
    state.aside.append((name, (), None))


def _end_leaf(state, _):
    # A macro that the break sprang may have ended it.
    if not _is_leaf_last(state):
        return
    name, lines = state.aside.pop()[:2]
    state.kept[name] = ("leaf", lines)
    _tell(state, "dn", len(lines))
    _tell(state, "dw", max([len(line) for line in lines], default=0))


def _tell(state, name, number):
    _, step, form = state.registers[name]
    state.registers[name] = (number, step, form)


def _begin_held(state, _):
    # Looked at once more, since the traps of the break may lead aside.
    if state.aside:
        fault(state, "aside")
    else:
        state.aside.append((None, (), None))


def _end_held(state, _):
    lines = state.aside.pop()[1]
    if state.waiting or len(lines) > lines_left(state):
        state.waiting.append(lines)
    else:
        put_lines(state, lines)
