"""Whether two sources are set alike at all widths, and where they part."""

from trapsetter.filling import MOST_WIDTH
from trapsetter.whole import pages_of


def first_unlike(source, source2, length, *, least=1, most=40):
    """None, or (width, page, line, text or None, text or None)."""
    for width in range(max(1, least), min(most, MOST_WIDTH) + 1):
        pages = pages_of(source, length, width=width)
        pages2 = pages_of(source2, length, width=width)
        parting = _parting(_lines_of(pages), _lines_of(pages2))
        if parting is not None:
            number, line, line2 = parting
            return width, number // length, number % length, line, line2
    return None


def lets_unlike(source, source2, length, thing, *, least=1, most=40):
    """Whether the thing is what first_unlike tells."""
    told = first_unlike(source, source2, length, least=least, most=most)
    if told is None or not isinstance(thing, tuple) or len(thing) != len(told):
        return told is None and thing is None
    return all([_is_same(part, other) for part, other in zip(told, thing)])


def _lines_of(pages):
    # All pages are of one length, so a line's number tells its page.
    return [line for page in pages for line in page]


def _parting(lines, lines2):
    """The first number where the lines are unlike, and both; None of none."""
    for number in range(max(len(lines), len(lines2))):
        line = lines[number] if number < len(lines) else None
        line2 = lines2[number] if number < len(lines2) else None
        if line != line2:
            return number, line, line2
    return None


def _is_same(part, other):
    # A truth stands for no number.
    return type(part) is type(other) and part == other
