"""Whether two sources are set alike at all widths, and where they part."""

from trapsetter.filling import MOST_WIDTH
from trapsetter.whole import pages_of


def first_unlike(source, source2, length, *, least=1, most=40):
    """None, or (width, page, line, text or None, text or None)."""
    for width in range(max(1, least), min(most, MOST_WIDTH) + 1):
        pages = pages_of(source, length, width=width)
        pages2 = pages_of(source2, length, width=width)
        parting = _parting(pages, pages2)
        if parting is not None:
            return width, *parting
    return None


def lets_unlike(source, source2, length, thing, *, least=1, most=40):
    """Whether the thing is what first_unlike tells."""
    told = first_unlike(source, source2, length, least=least, most=most)
    if told is None or not isinstance(thing, tuple) or len(thing) != len(told):
        return told is None and thing is None
    return all([_is_same(part, other) for part, other in zip(told, thing)])


def _parting(pages, pages2):
    """The first (page, line, text, text) that are unlike, or None."""
    for number in range(max(len(pages), len(pages2))):
        page = pages[number] if number < len(pages) else ()
        page2 = pages2[number] if number < len(pages2) else ()
        for at in range(max(len(page), len(page2))):
            line = page[at] if at < len(page) else None
            line2 = page2[at] if at < len(page2) else None
            if line != line2:
                return number, at, line, line2
    return None


def _is_same(part, other):
    # A truth stands for no number.
    return type(part) is type(other) and part == other
