"""Lines, sources, request lines with their parts, and names."""

from trapsetter.errors import NoSource

MOST_SIGNS = 60
MOST_LINES = 60
MOST_LETTERS = 6


def is_line(thing):
    """Whether the thing is a text of at most sixty signs."""
    return isinstance(thing, str) and len(thing) <= MOST_SIGNS and are_signs(thing)


def are_signs(text):
    """Whether the text is of signs alone, from the blank to the tilde."""
    return all([" " <= sign <= "~" for sign in text])


def is_source(thing):
    """Whether the thing is a tuple of at most sixty lines."""
    if not isinstance(thing, tuple) or len(thing) > MOST_LINES:
        return False
    return all([is_line(line) for line in thing])


def need_source(thing):
    """Refuses with NoSource what is no source."""
    if not is_source(thing):
        raise NoSource("a source is a tuple of at most sixty lines")


def is_request(line):
    """Whether the line asks for something; others are text."""
    return line.startswith("..") or (line.startswith(".") and _are_letters(line[1:2]))


def word_of(line):
    """The word of a request line, without its dot."""
    return line[1:].partition(" ")[0]


def rest_of(line):
    """What stands behind the word of a request line, without blanks ahead."""
    return line.partition(" ")[2].lstrip(" ")


def parts_of(rest):
    """What stands between the blanks of the rest."""
    return [part for part in rest.split(" ") if part]


def is_name(thing, *, least=1):
    """Whether the thing is a text of least to six small letters."""
    if not isinstance(thing, str) or not least <= len(thing) <= MOST_LETTERS:
        return False
    return _are_letters(thing)


def _are_letters(text):
    # A text without signs is none of letters, whatever least is told.
    return text != "" and all(["a" <= sign <= "z" for sign in text])
