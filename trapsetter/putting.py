"""What is put in: registers, strings and arguments told within a line."""

from trapsetter.lines import is_name
from trapsetter.registers import shown, stepped
from trapsetter.words import STROKE

MOST_SIGNS = 200

FIGURES = "0123456789"

# No string is kept by a shorter name.
LEAST_OF_STRINGS = 3

# The page's number, its lines, and the two of what was last led aside.
STEPLESS = ("pn", "vp", "dn", "dw")


def put_in(line, registers, strings, args):
    """The line with all put in, and the registers as they are then."""
    return put_in_but(line, registers, strings, args, STEPLESS)


def put_in_but(line, registers, strings, args, stepless):
    """As put_in, where these names alone pass over a step."""
    after = dict(registers)
    text = ""
    at = 0
    while at < len(line):
        letter, inside = _told_at(line, at)
        if letter:
            text += _put(letter, inside, after, strings, args, stepless)
            # The stroke, the letter and the two parentheses are four signs.
            at += len(inside) + 4
        else:
            size = 2 if line[at:at + 2] == STROKE else 1
            text += line[at:at + size]
            at += size
    return text[:MOST_SIGNS], after


def _told_at(line, at):
    """The letter and the inside of what is told there, or two empty texts."""
    if line[at] != "\\" or line[at + 2:at + 3] != "(":
        return "", ""
    letter = line[at + 1]
    inside, closing, _ = line[at + 3:].partition(")")
    if closing and _is_just_so(letter, inside):
        return letter, inside
    return "", ""


def _is_just_so(letter, inside):
    if letter == "R":
        return is_name(inside.removeprefix("+"))
    if letter == "S":
        return is_name(inside)
    return letter == "A" and len(inside) == 1 and inside in FIGURES


def _put(letter, inside, registers, strings, args, stepless):
    if letter == "S":
        return strings.get(inside, "") if len(inside) >= LEAST_OF_STRINGS else ""
    if letter == "A":
        return _argument(int(inside), args)
    name = inside.removeprefix("+")
    if name not in registers:
        return "0"
    if name != inside and name not in stepless:
        registers[name] = stepped(registers[name])
    value, _, form = registers[name]
    return shown(value, form)


def _argument(number, args):
    if number == 0:
        return str(len(args))
    return args[number - 1] if number <= len(args) else ""
