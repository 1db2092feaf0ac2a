"""Pages and sources read back from their texts."""

from trapsetter.errors import NoText
from trapsetter.lines import MOST_LINES, are_signs, is_line


def read_pages(text):
    """The pages that show_pages wrote; NoText of another text."""
    _need_text(text)
    pages = []
    page = []
    for number, line in enumerate(_ended_lines(text)):
        if line == "=" and page:
            pages.append(tuple(page))
            page = []
        elif line.startswith("|") and are_signs(line):
            page.append(line[1:])
        else:
            raise NoText(number)
    _need_end(text)
    if page:
        raise NoText(text.count("\n"))
    return pages


def read_source(text):
    """The source that show_source wrote; NoText of another text."""
    _need_text(text)
    lines = _ended_lines(text)
    for number, line in enumerate(lines):
        if number == MOST_LINES or not is_line(line):
            raise NoText(number)
    _need_end(text)
    return tuple(lines)


def _need_text(thing):
    if not isinstance(thing, str):
        raise NoText(None)


def _need_end(text):
    """Refuses a last line without its line end, by its number."""
    if text and not text.endswith("\n"):
        raise NoText(text.count("\n"))


def _ended_lines(text):
    """The lines that have their line ends."""
    return text.split("\n")[:-1]
